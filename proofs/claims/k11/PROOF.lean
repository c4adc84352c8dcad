import PyProof.Rows.All
import Wide.All
import OpenK.AllK
import Wide.FinOn
import Lean
import PyProof.EqAt
import PyProof.EqKinds
import PyProof.TupleCall
import PyProof.NeKinds
import PyProof.SliceStr2
import KE.KDictList
import PyProof.CollectIter
import PyProof.EnumFor
import PyProof.EnumMake
import PyProof.LayNew
import PySem.Str
import PyProof.Rows.RegStrFacts
import PyProof.StrLawsRepr
import PySem.Challenge.RW_patchkin_k11_whole_there_and_back
set_option Elab.async false
set_option linter.all false
set_option maxRecDepth 100000
set_option maxHeartbeats 0
theorem Tj:type_of% @List.length_map:=@List.length_map
theorem Tq:type_of% @List.mem_singleton:=@List.mem_singleton
theorem V8:type_of% @PySem.wpAny_bind:=@PySem.wpAny_bind
theorem V_:type_of% @List.mem_of_getElem?:=@List.mem_of_getElem?
theorem Wc:type_of% @List.mem_map_of_mem:=@List.mem_map_of_mem
theorem Wd:type_of% @List.getElem?_eq_getElem:=@List.getElem?_eq_getElem
theorem W3:type_of% @List.mem_cons:=@List.mem_cons
theorem W9:type_of% @List.mem_append:=@List.mem_append
theorem ZA:type_of% @Nat.le_refl:=@Nat.le_refl
theorem ZD:type_of% @List.length_append:=@List.length_append
theorem ZF:type_of% @decide_eq_true:=@decide_eq_true
theorem ZH:type_of% @List.mem_filter:=@List.mem_filter
theorem aaa:type_of% @List.append_nil:=@List.append_nil
theorem aab:type_of% @List.filter_cons_of_pos:=@List.filter_cons_of_pos
theorem aac:type_of% @Nat.le_trans:=@Nat.le_trans
theorem aad:type_of% @List.mem_cons_of_mem:=@List.mem_cons_of_mem
theorem aae:type_of% @List.length_cons:=@List.length_cons
theorem aaf:type_of% @decide_eq_false:=@decide_eq_false
theorem aag:type_of% @PySem.Heap.get?_push_of_some:=@PySem.Heap.get?_push_of_some
theorem aah:type_of% @Bool.false_ne_true:=@Bool.false_ne_true
theorem aai:type_of% @List.size_toArray:=@List.size_toArray
theorem aaj:type_of% @List.filter_cons_of_neg:=@List.filter_cons_of_neg
theorem aak:type_of% @if_neg:=@if_neg
theorem aal:type_of% @List.mem_append_left:=@List.mem_append_left
theorem aam:type_of% @List.getElem?_map:=@List.getElem?_map
theorem aan:type_of% @PySem.W.mg_of:=@PySem.W.mg_of
theorem aao:type_of% @PySem.wpAny_pure:=@PySem.wpAny_pure
theorem aap:type_of% @if_pos:=@if_pos
theorem aaq:type_of% @PySem.Paired.length:=@PySem.Paired.length
theorem aar:type_of% @List.map_append:=@List.map_append
theorem aas:type_of% @List.take_length:=@List.take_length
theorem aat:type_of% @List.mem_cons_self:=@List.mem_cons_self
theorem aau:type_of% @Option.some.inj:=@Option.some.inj
theorem aav:type_of% @List.map_cons:=@List.map_cons
theorem aaw:type_of% @List.append_assoc:=@List.append_assoc
theorem aax:type_of% @PySem.Heap.lt_size:=@PySem.Heap.lt_size
theorem aay:type_of% @PySem.boot_len:=@PySem.boot_len
theorem aaz:type_of% @PySem.PassesOwn.never:=@PySem.PassesOwn.never
theorem aaA:type_of% @of_decide_eq_true:=@of_decide_eq_true
theorem aaB:type_of% @PySem.sizeLine_eq:=@PySem.sizeLine_eq
theorem aaC:type_of% @PySem.Heap.get?_push_size:=@PySem.Heap.get?_push_size
theorem aaD:type_of% @List.length_take:=@List.length_take
theorem aaE:type_of% @Nat.lt_of_lt_of_le:=@Nat.lt_of_lt_of_le
theorem aaF:type_of% @List.filter_append:=@List.filter_append
theorem aaG:type_of% @List.mem_append_right:=@List.mem_append_right
theorem aaH:type_of% @List.Sublist.refl:=@List.Sublist.refl
theorem aaI:type_of% @Nat.zero_le:=@Nat.zero_le
theorem aaJ:type_of% @List.flatMap_cons:=@List.flatMap_cons
theorem aaK:type_of% @List.length_eq_zero_iff:=@List.length_eq_zero_iff
theorem aaL:type_of% @List.nodup_cons:=@List.nodup_cons
theorem aaM:type_of% @PySem.F.plainAttrs_list:=@PySem.F.plainAttrs_list
theorem aaN:type_of% @List.length_filter_le:=@List.length_filter_le
theorem aaO:type_of% @List.mem_iff_getElem?:=@List.mem_iff_getElem?
theorem aaP:type_of% @List.not_mem_nil:=@List.not_mem_nil
theorem aaQ:type_of% @List.drop_eq_getElem_cons:=@List.drop_eq_getElem_cons
theorem aaR:type_of% @PySem.W.mg_none_of:=@PySem.W.mg_none_of
theorem aaS:type_of% @List.filter_sublist:=@List.filter_sublist
theorem aaT:type_of% @Nat.ne_of_lt:=@Nat.ne_of_lt
theorem aaU:type_of% @PyProof.Rows.boot_isinstance:=@PyProof.Rows.boot_isinstance
theorem aaV:type_of% @Array.getElem?_eq_getElem:=@Array.getElem?_eq_getElem
theorem aaW:type_of% @PyProof.Rows.callWith_type1:=@PyProof.Rows.callWith_type1
theorem aaX:type_of% @List.filter_nil:=@List.filter_nil
theorem aaY:type_of% @PySem.F.slot_list_append:=@PySem.F.slot_list_append
theorem aaZ:type_of% @PySem.F.type_list_append:=@PySem.F.type_list_append
theorem aa0:type_of% @List.nodup_append:=@List.nodup_append
theorem aa1:type_of% @Bool.false_eq_true:=@Bool.false_eq_true
theorem aa2:type_of% @decide_eq_true_iff:=@decide_eq_true_iff
theorem aa3:type_of% @List.sublist_append_right:=@List.sublist_append_right
theorem aa4:type_of% @congrArg:=@congrArg
theorem aa5:type_of% @List.mem_flatMap:=@List.mem_flatMap
theorem aa6:type_of% @List.nodup_nil:=@List.nodup_nil
theorem aa7:type_of% @PySem.Heap.get?_update_self:=@PySem.Heap.get?_update_self
theorem aa8:type_of% @List.replicate_succ:=@List.replicate_succ
theorem aa9:type_of% @Array.getElem?_toList:=@Array.getElem?_toList
theorem aa_:type_of% @PySem.wpAny_dictEntries:=@PySem.wpAny_dictEntries
theorem aba:type_of% @List.getElem?_append_right:=@List.getElem?_append_right
theorem abb:type_of% @PySem.Calls.spliced_cons:=@PySem.Calls.spliced_cons
theorem abc:type_of% @Nat.lt_of_le_of_lt:=@Nat.lt_of_le_of_lt
theorem abd:type_of% @List.getElem?_set_self:=@List.getElem?_set_self
theorem abe:type_of% @PySem.Calls.callWith_builtin:=@PySem.Calls.callWith_builtin
theorem abf:type_of% @PySem.W.kia_one:=@PySem.W.kia_one
theorem abg:type_of% @List.pairwise_iff_getElem:=@List.pairwise_iff_getElem
theorem abh:type_of% @Array.length_toList:=@Array.length_toList
theorem abi:type_of% @List.length_reverse:=@List.length_reverse
theorem abj:type_of% @PySem.Heap.SameBut.update:=@PySem.Heap.SameBut.update
theorem abk:type_of% @List.flatMap_append:=@List.flatMap_append
theorem abl:type_of% @PySem.F.slot_dict_keyiterator_next:=@PySem.F.slot_dict_keyiterator_next
theorem abm:type_of% @Nat.lt_irrefl:=@Nat.lt_irrefl
theorem abn:type_of% @List.getElem?_set_ne:=@List.getElem?_set_ne
theorem abo:type_of% @PySem.Calls.evalArgs_plain:=@PySem.Calls.evalArgs_plain
theorem abp:type_of% @Bool.and_eq_true:=@Bool.and_eq_true
theorem abq:type_of% @List.sublist_cons_self:=@List.sublist_cons_self
theorem abr:type_of% @List.filterMap_cons:=@List.filterMap_cons
theorem abt:type_of% @PySem.wpAny_mono:=@PySem.wpAny_mono
theorem abu:type_of% @PySem.wpAny_truthy_bool:=@PySem.wpAny_truthy_bool
theorem abv:type_of% @PySem.Calls.spliced_nil:=@PySem.Calls.spliced_nil
theorem abw:type_of% @PySem.mem_of_lookup:=@PySem.mem_of_lookup
theorem abx:type_of% @List.take_zero:=@List.take_zero
theorem aby:type_of% @List.take_append_drop:=@List.take_append_drop
theorem abz:type_of% @PySem.tupleKind_room_in1:=@PySem.tupleKind_room_in1
theorem abA:type_of% @List.filter_cons:=@List.filter_cons
theorem abB:type_of% @PySem.wpAny_typeNameOfWhole_keyiter:=@PySem.wpAny_typeNameOfWhole_keyiter
theorem abC:type_of% @List.flatMap_nil:=@List.flatMap_nil
theorem abD:type_of% @PySem.F.plainAttrs_dict:=@PySem.F.plainAttrs_dict
theorem abE:type_of% @Bool.eq_false_iff:=@Bool.eq_false_iff
theorem abF:type_of% @List.getElem?_inj:=@List.getElem?_inj
theorem abG:type_of% @Bool.eq_iff_iff:=@Bool.eq_iff_iff
theorem abH:type_of% @List.find?_cons:=@List.find?_cons
theorem abI:type_of% @PySem.Heap.get?_update_other:=@PySem.Heap.get?_update_other
theorem abJ:type_of% @Ne.symm:=@Ne.symm
theorem abK:type_of% @List.all_eq_true:=@List.all_eq_true
theorem abL:type_of% @PySem.wpAny_holding:=@PySem.wpAny_holding
theorem abM:type_of% @List.mem_filterMap:=@List.mem_filterMap
theorem abN:type_of% @List.getElem?_take:=@List.getElem?_take
theorem abO:type_of% @List.filterMap_append:=@List.filterMap_append
theorem abP:type_of% @List.getElem?_append_left:=@List.getElem?_append_left
theorem abQ:type_of% @or_false:=@or_false
theorem abR:type_of% @List.range_eq_range':=@List.range_eq_range'
theorem abS:type_of% @PySem.wpAny_passesOwn:=@PySem.wpAny_passesOwn
theorem abT:type_of% @Int.toNat_natCast:=@Int.toNat_natCast
theorem abU:type_of% @List.flatten_cons:=@List.flatten_cons
theorem abV:type_of% @decide_eq_true_eq:=@decide_eq_true_eq
theorem abW:type_of% @PySem.F.slot_dict_update:=@PySem.F.slot_dict_update
theorem abX:type_of% @List.reverse_cons:=@List.reverse_cons
theorem abY:type_of% @List.length_filterMap_le:=@List.length_filterMap_le
theorem abZ:type_of% @List.map_congr_left:=@List.map_congr_left
theorem ab0:type_of% @List.lookup_cons:=@List.lookup_cons
theorem ab1:type_of% @PySem.wpAny_call_entry:=@PySem.wpAny_call_entry
theorem ab2:type_of% @beq_iff_eq:=@beq_iff_eq
theorem ab3:type_of% @List.filter_eq_nil_iff:=@List.filter_eq_nil_iff
theorem ab4:type_of% @PyProof.Rows.boot_list:=@PyProof.Rows.boot_list
theorem ab5:type_of% @if_false:=@if_false
theorem ab6:type_of% @List.getElem?_drop:=@List.getElem?_drop
theorem ab7:type_of% @List.Nodup.sublist:=@List.Nodup.sublist
theorem ab8:type_of% @Option.map_some:=@Option.map_some
theorem ab9:type_of% @PySem.F.slot_dict_pop:=@PySem.F.slot_dict_pop
theorem ab_:type_of% @PySem.wpAny_specialOf:=@PySem.wpAny_specialOf
theorem aca:type_of% @PySem.wpAny_ite_split:=@PySem.wpAny_ite_split
theorem acb:type_of% @PySem.size_of_entries:=@PySem.size_of_entries
theorem acd:type_of% @List.take_sublist:=@List.take_sublist
theorem ace:type_of% @List.length_range:=@List.length_range
theorem acf:type_of% @Nat.lt_succ_self:=@Nat.lt_succ_self
theorem acg:type_of% @List.range'_succ:=@List.range'_succ
theorem ach:type_of% @List.drop_length:=@List.drop_length
theorem aci:type_of% @Sum.inr.inj:=@Sum.inr.inj
theorem acj:type_of% @List.length_set:=@List.length_set
theorem ack:type_of% @Bool.or_eq_true:=@Bool.or_eq_true
theorem acm:type_of% @List.range_succ:=@List.range_succ
abbrev Qqq:=PySem.Value→PySem.Shared→Prop
abbrev Qqz:=List (PySem.Addr×PySem.Obj)
abbrev Qqx:=PySem.Str→Option PySem.Value
abbrev Qqy:=PySem.W.Frag
namespace L2
open PySem PySem.Spec PyProof.Rows
abbrev Key:=Sum Int Str
noncomputable def zg:Key→Value→Bool
 | .inl k,v=>Value.isInt k v
 | .inr x,v=>Value.isStrOf x v
noncomputable def Vy(w:World):Key→Int
 | .inl k=>hashInt k
 | .inr x=>hashStr w x
theorem jn:∀{k:Key} {v:Value},zg k v=true→(∃i t,k=Sum.inl i∧v=Value.int i t)∨(∃x t,k=Sum.inr x∧v=Value.str x t)
 | .inl i,v,h=>by
  obtain⟨t,e⟩:=Value.isInt_shape (k:=i) (v:=v) h
  exact .inl ⟨i,t,rfl,e⟩
 | .inr x,v,h=>by
  obtain⟨t,e⟩:=Value.isStrOf_shape (x:=x) (v:=v) h
  exact .inr ⟨x,t,rfl,e⟩
theorem Hx(i:Int)(t:Tok):zg (.inl i) (.int i t)=true:=by simp[zg,Value.isInt]
theorem Hy(x:Str)(t:Tok):zg (.inr x) (.str x t)=true:=by simp[zg,Value.isStrOf]
theorem N8(a b:Int):decide ((Sum.inl a:Key)=Sum.inl b)=(a ==b):=by
 by_cases e:a=b
 ·subst e;simp
 ·have h:¬(Sum.inl a:Key)=Sum.inl b:=fun q=>e (Sum.inl.inj q)
  rw[aaf h]
  exact(beq_eq_false_iff_ne.mpr e).symm
theorem N9(a b:Str):decide ((Sum.inr a:Key)=Sum.inr b)=decide (a=b):=by
 by_cases e:a=b
 ·subst e;simp
 ·have h:¬(Sum.inr a:Key)=Sum.inr b:=fun q=>e (aci q)
  rw[aaf h,aaf e]
theorem N_(a:Int)(b:Str):decide ((Sum.inl a:Key)=Sum.inr b)=false:=aaf (fun q=>nomatch q)
theorem Oa(a:Str)(b:Int):decide ((Sum.inr a:Key)=Sum.inl b)=false:=aaf (fun q=>nomatch q)
noncomputable def jf(prog:Program)(w:World):PySem.KeyKind prog w Key where
 is:=zg
 hash:=Vy w
 inj:=fun v a b ha hb=>by
  rcases jn ha with⟨i,t,rfl,rfl⟩|⟨x,t,rfl,rfl⟩
  ·rcases jn hb with⟨j,u,rfl,e⟩|⟨y,u,rfl,e⟩
   ·injection e with e1 _;rw[e1]
   ·exact nomatch e
  ·rcases jn hb with⟨j,u,rfl,e⟩|⟨y,u,rfl,e⟩
   ·exact nomatch e
   ·injection e with e1 _;rw[e1]
 byValue:=fun k v h=>by
  rcases jn h with⟨i,t,rfl,rfl⟩|⟨x,t,rfl,rfl⟩<;>rfl
 pyHash:=fun hv h=>by
  rcases jn hv with⟨i,t,rfl,rfl⟩|⟨x,t,rfl,rfl⟩
  ·exact wpAny_pyHash_int h
  ·exact wpAny_pyHash_str h
 eqBool:=fun hu hv h=>by
  rcases jn hu with⟨i,t,rfl,rfl⟩|⟨x,t,rfl,rfl⟩
  ·rcases jn hv with⟨j,u,rfl,rfl⟩|⟨y,u,rfl,rfl⟩
   ·rw[N8] at h;exact wpAny_eqBool_int h
   ·rw[N_] at h;exact SeqAt.EqAt.int_str i t y u _ _ _ _ h
  ·rcases jn hv with⟨j,u,rfl,rfl⟩|⟨y,u,rfl,rfl⟩
   ·rw[Oa] at h;exact SeqAt.EqAt.str_int x t j u _ _ _ _ h
   ·rw[N9] at h;exact wpAny_eqBool_str h
 «strs»:=fun k x t v h=>by
  rcases jn h with⟨i,u,rfl,e⟩|⟨y,u,rfl,e⟩
  ·exact nomatch e
  ·injection e with e1 _
   subst e1
   cases v<;>rfl
theorem DS(prog:Program)(w:World)(i:Int)(t:Tok):(jf prog w).is (.inl i) (.int i t)=true:=Hx i t
theorem DT(prog:Program)(w:World)(x:Str)(t:Tok):(jf prog w).is (.inr x) (.str x t)=true:=Hy x t
inductive V where
 | jo|bl (b:Bool)|int (i:Int)|str (x:Str)|Fu (b:Array UInt8)|Ng (b:UInt64)|ref (a:Addr)|ty (n:String)
 deriving DecidableEq
def RelV:V→Value→Prop
 | .jo,u=>u=Value.none
 | .bl b,u=>u=Value.bool b
 | .int i,u=>∃t,u=Value.int i t
 | .str x,u=>∃t,u=Value.str x t
 | .Fu b,u=>∃t,u=Value.bytes b t
 | .Ng b,u=>∃t,u=Value.float b t
 | .ref a,u=>u=Value.ref a
 | .ty n,u=>u=Value.type n
abbrev Vals:List V→List Value→Prop:=Paired RelV
theorem Vals.length{xs:List V}{us:List Value}(r:Vals xs us):xs.length=us.length:=aaq r
theorem Vals.get:∀{xs:List V} {us:List Value} {i:Nat} {x:V},Vals xs us→xs[i]?=some x→∃u,us[i]?=some u∧RelV x u
 | _,_,_,_,.nil,e=>by simp at e
 | _,_,0,_,.cons r _,e=>by simp at e;subst e;exact⟨_,rfl,r⟩
 | _,_,i+1,x,.cons _ t,e=>by
  obtain⟨u,h1,h2⟩:=Vals.get (i:=i) (x:=x) t (by simpa using e)
  exact⟨u,by simpa using h1,h2⟩
theorem Vals.set{x:V}{u:Value}(r:RelV x u):∀{xs:List V} {us:List Value} (i:Nat),Vals xs us→Vals (xs.set i x) (us.set i u)
 | _,_,_,.nil=>.nil
 | _,_,0,.cons _ t=>.cons r t
 | _,_,i+1,.cons q t=>.cons q (Vals.set r i t)
theorem Vals.append:∀{xs ys:List V} {us ws:List Value},Vals xs us→Vals ys ws→Vals (xs++ys) (us++ws)
 | _,_,_,_,.nil,s=>s
 | _,_,_,_,.cons r t,s=>.cons r (Vals.append t s)
theorem Vals.take:∀{xs:List V} {us:List Value} (n:Nat),Vals xs us→Vals (xs.take n) (us.take n)
 | _,_,0,_=>.nil
 | _,_,_+1,.nil=>.nil
 | _,_,n+1,.cons r t=>.cons r (Vals.take n t)
theorem Vals.drop:∀{xs:List V} {us:List Value} (n:Nat),Vals xs us→Vals (xs.drop n) (us.drop n)
 | _,_,0,r=>r
 | _,_,_+1,.nil=>.nil
 | _,_,n+1,.cons _ t=>Vals.drop n t
def pI:Option V→Option Value→Prop
 | some v,some u=>RelV v u
 | none,none=>True
 | _,_=>False
def KV{κ:Type}:List (κ×V)→List (κ×Value)→Prop:=Paired fun(p:κ×V) (q:κ×Value)=>p.1=q.1∧RelV p.2 q.2
noncomputable def kV:Key→V
 | .inl i=>.int i
 | .inr x=>.str x
inductive HO where
 | lst (xs:List V)
 | tup (xs:List V)
 | dK (kvs:List (Key×V))|dT (kvs:List (List Key×V))
 | set (S:Int→Bool) (n:Nat)
 | ins (C dx:Addr) (fs:List (Str×V))
 | own (x:Addr)
 | xd (fs:List (Str×V))
 | met (f x:Addr)
 | UE (lo hi:Int)
 | nA (o:Obj) (u:HO)
 | Lz (ps:Array Value)
 | ext (φ:Heap→Prop)
abbrev Hp:=Addr→Option HO
noncomputable def upd(H:Hp)(a:Addr)(o:HO):Hp:=fun b=>if b=a then some o else H b
theorem b_{H:Hp}{a:Addr}{o:HO}:upd H a o a=some o:=by unfold upd;rw[aap rfl]
theorem e_{H:Hp}{a b:Addr}{o:HO}(h:b≠a):upd H a o b=H b:=by unfold upd;rw[aak h]
theorem LJ{H:Hp}{a:Addr}{o u:HO}:upd (upd H a o) a u=upd H a u:=by
 funext b;unfold upd;split<;>rfl
theorem iX{H:Hp}{a b:Addr}{o u:HO}(h:H a=some o)(h':H b=some u)(d:o≠u):a≠b:=by
 intro e;subst e;rw[h] at h';exact d (aau h')
theorem gj{H:Hp}{a b:Addr}{o:HO}(h:H a=some o)(h':H b=none):a≠b:=by
 intro e;subst e;rw[h] at h';cases h'
section
variable(P:Program)(w:World)
noncomputable def i9(H:Hp)(h:Heap)(a:Addr):HO→Prop
 | .lst xs=>xs.length≤sizeLine∧∃(ib:List Value)(n:Nat),Vals xs ib∧h.get? a=some {cls:=.type "list",data:=.seq ib.toArray n}
 | .tup xs=>xs.length≤sizeLine∧∃ib:List Value,Vals xs ib∧IsTup h a ib.toArray
 | .dK kvs=>kvs.length≤sizeLine∧(a ==sysModules)=false∧∃vs,KV kvs vs∧h.DictOf (jf P w) a vs
 | .dT kvs=>kvs.length≤sizeLine∧(a ==sysModules)=false∧∃xs:List (List Key×Addr×Value),
  Paired (fun(p:List Key×V) (q:List Key×Addr×Value)=>p.1=q.1∧H q.2.1=some (.tup (p.1.map kV))∧RelV p.2 q.2.2) kvs xs∧
  ∃o es ep,h.get? a=some o∧o.ExactDict∧o.data=.dict es ep∧es.toList=xs.map (entryOfKey (tupleKind (jf P w)))∧(xs.map (·.1)).Nodup
 | .set S n=>h.SetOf (intKind P w) a S n
 | .ins C dx fs=>H dx=some (.own a)∧fs.length≤1000∧dx≠a∧h.get? a=some (W.instObj C dx)∧
  ∃mA,h.Ns1 dx mA∧(∀f,pI (fs.lookup f) (mA f))∧PySem.Within mA (fs.map (·.1))
 | .own _=>∃o,h.get? a=some o
 | .xd fs=>∃mA,h.Ns1 a mA∧∀f,pI (fs.lookup f) (mA f)
 | .UE lo hi=>∃t u v,h.get? a=some {cls:=.type "range",data:=.fields #[.int lo t,.int hi u,.int 1 v]}
 | .nA o u=>h.get? a=some o∧i9 H h a u
 | .Lz ps=>h.get? a=some {cls:=.none,data:=.fields ps}
 | .met f x=>h.get? a=some (W.methodObj (.ref f) (.ref x))
 | .ext φ=>φ h∧(∃o,h.get? a=some o)∧∀h1 h2:Heap,φ h1→(∀o,h1.get? a=some o→h2.get? a=some o)→φ h2
def rh(H:Hp)(h:Heap):Prop:=∀a o,H a=some o→i9 P w H h a o
end
section
variable{P:Program}{w:World}{H H':Hp}{h h':Heap}{a:Addr}{o:HO}
theorem i9.lt(x:i9 P w H h a o):a<h.objs.size:=by
 cases o with
 | lst xs=>obtain⟨_,_,_,_,e⟩:=x;exact aax e
 | tup xs=>obtain⟨_,_,_,p⟩:=x;exact p.lt
 | dK kvs=>obtain⟨_,_,_,_,o,_,_,e,_⟩:=x;exact aax e
 | dT kvs=>obtain⟨_,_,_,_,o,_,_,e,_⟩:=x;exact aax e
 | set S n=>obtain⟨o,_,_,_,e,_⟩:=x;exact aax e
 | ins C dx fs=>obtain⟨_,_,_,e,_⟩:=x;exact aax e
 | own y=>obtain⟨_,e⟩:=x;exact aax e
 | xd fs=>obtain⟨_,⟨_,_,_,e,_⟩,_⟩:=x;exact aax e
 | UE lo hi=>obtain⟨_,_,_,e⟩:=x;exact aax e
 | nA ob u=>obtain⟨e,_⟩:=x;exact aax e
 | Lz ps=>exact aax (show h.get? a=some _ from x)
 | met f y=>exact aax (show h.get? a=some _ from x)
 | ext φ=>obtain⟨_,⟨_,e⟩,_⟩:=x;exact aax e
theorem Paired.jZ{α β:Type}{F G:α→β→Prop}:∀{l₁:List α} {l₂:List β},Paired F l₁ l₂→(∀a b,F a b→G a b)→Paired G l₁ l₂
 | _,_,.nil,_=>.nil
 | _,_,.cons r t,f=>.cons (f _ _ r) (Paired.jZ t f)
theorem i9.zh(x:i9 P w H h a o)(k:∀b u,(b=a∨H b=some (.own a))→h.get? b=some u→h'.get? b=some u)
  (ho:∀b,H b=some (.own a)→H' b=some (.own a)) (ht:∀b xs,H b=some (.tup xs)→H' b=some (.tup xs)):i9 P w H' h' a o:=by
 induction o with
 | lst xs=>obtain⟨z,ib,n,r,e⟩:=x;exact⟨z,ib,n,r,k _ _ (.inl rfl) e⟩
 | tup xs=>obtain⟨z,ib,r,ob,e,c⟩:=x;exact⟨z,ib,r,ob,k _ _ (.inl rfl) e,c⟩
 | dK kvs=>obtain⟨z,y,vs,r,ob,es,ep,e,c⟩:=x;exact⟨z,y,vs,r,ob,es,ep,k _ _ (.inl rfl) e,c⟩
 | dT kvs=>
  obtain⟨z,y,xs,r,ob,es,ep,e,c⟩:=x
  exact⟨z,y,xs,Paired.jZ r fun p q z=>⟨z.1,ht _ _ z.2.1,z.2.2⟩,ob,es,ep,k _ _ (.inl rfl) e,c⟩
 | set S n=>obtain⟨ob,es,ep,t,e,c⟩:=x;exact⟨ob,es,ep,t,k _ _ (.inl rfl) e,c⟩
 | ins C dx fs=>
  obtain⟨d,z,ne,e,mA,⟨od,es,ep,e2,c⟩,r⟩:=x
  exact⟨ho _ d,z,ne,k _ _ (.inl rfl) e,mA,⟨od,es,ep,k _ _ (.inr d) e2,c⟩,r⟩
 | own y=>obtain⟨ob,e⟩:=x;exact⟨ob,k _ _ (.inl rfl) e⟩
 | xd fs=>obtain⟨mA,⟨od,es,ep,e,c⟩,r⟩:=x;exact⟨mA,⟨od,es,ep,k _ _ (.inl rfl) e,c⟩,r⟩
 | UE lo hi=>obtain⟨t,u,v,e⟩:=x;exact⟨t,u,v,k _ _ (.inl rfl) e⟩
 | nA ob u ih=>obtain⟨e,q⟩:=x;exact⟨k _ _ (.inl rfl) e,ih q⟩
 | Lz ps=>
  have e:h.get? a=some {cls:=.none,data:=.fields ps}:=x
  show h'.get? a=some {cls:=.none,data:=.fields ps}
  exact k a _ (.inl rfl) e
 | met f y=>
  have e:h.get? a=some (W.methodObj (.ref f) (.ref y)):=x
  show h'.get? a=some (W.methodObj (.ref f) (.ref y))
  exact k a _ (.inl rfl) e
 | ext φ=>obtain⟨p,⟨o,e⟩,st⟩:=x;exact⟨st _ _ p fun o q=>k _ _ (.inl rfl) q,⟨o,k _ _ (.inl rfl) e⟩,st⟩
theorem rh.lt(x:rh P w H h)(e:H a=some o):a<h.objs.size:=(x a o e).lt
theorem rh.fresh(x:rh P w H h)(e:h.objs.size≤a):H a=none:=by
 cases q:H a with
 | none=>rfl
 | some u=>exact absurd (aaE (x.lt q) e) (abm _)
theorem rh.kept(x:rh P w H h)(k:∀b u,h.get? b=some u→h'.get? b=some u):rh P w H h':=fun a o e=>
 (x a o e).zh (fun b u _ q=>k b u q) (fun _ q=>q) fun _ _ q=>q
theorem rh.laid(x:rh P w H h)(k:∀b u,h.get? b=some u→h'.get? b=some u)(hp:h.objs.size≤a)(new:i9 P w (upd H a o) h' a o):rh P w (upd H a o) h':=fun b u e=>by
 have hn:=x.fresh hp
 by_cases hb:b=a
 ·subst hb;rw[b_] at e;cases e;exact new
 ·rw[e_ hb] at e
  exact(x b u e).zh (fun c v _ q=>k c v q) (fun c q=>by rw[e_ (gj q hn)];exact q) fun c xs q=>by rw[e_ (gj q hn)];exact q
end
def Rd(H:Hp)(a:Addr)(u:HO):Prop:=H a=some u∨∃o,H a=some (.nA o u)
theorem Rd.ok{P:Program}{w:World}{H:Hp}{h:Heap}{a:Addr}{u:HO}(r:Rd H a u)(x:rh P w H h):i9 P w H h a u:=by
 rcases r with r|⟨o,r⟩
 ·exact x a u r
 ·obtain⟨_,q⟩:=x a _ r
  exact q
def Nh:Option HO→Prop
 | some (.lst _)=>True
 | some (.dK _)=>True
 | some (.dT _)=>True
 | some (.set _ _)=>True
 | some (.ins _ _ _)=>True
 | some (.ext _)=>True
 | _=>False
section
variable{P:Program}{w:World}{H:Hp}{h h':Heap}{x e:Addr}{o':HO}
theorem rh.write(ok:rh P w H h)(mu:Nh (H x))(he:e=x∨H e=some (.own x))(k:∀b u,b≠e→h.get? b=some u→h'.get? b=some u)(K6:∃u,h'.get? e=some u)
  (new:i9 P w (upd H x o') h' x o'):rh P w (upd H x o') h':=fun b u q=>by
 have SK:∀c y,H c=some (.own y)→c≠x:=fun c y r z=>by subst z;rw[r] at mu;exact mu
 have Ws:∀c xs,H c=some (.tup xs)→c≠x:=fun c xs r z=>by subst z;rw[r] at mu;exact mu
 by_cases hb:b=x
 ·subst hb;rw[b_] at q;cases q;exact new
 ·rw[e_ hb] at q
  by_cases PX:b=e
  ·have q':H b=some (.own x):=by
    rcases he with z|z
    ·exact absurd (PX.trans z) hb
    ·rw[PX];exact z
   rw[q] at q';cases q'
   obtain⟨v,hv⟩:=K6
   exact⟨v,by rw[PX];exact hv⟩
  ·refine(ok b u q).zh (fun c v hc r=>k c v ?_ r) (fun c r=>by rw[e_ (SK c b r)];exact r) fun c xs r=>by rw[e_ (Ws c xs r)];exact r
   rcases hc with rfl|hc
   ·exact PX
   ·rintro rfl
    rcases he with z|z
    ·exact SK c b hc z
    ·rw[hc] at z;cases z;exact hb rfl
end
structure Un(fs ex:List Addr)(H H':Hp)(h h':Heap):Prop where
 keep:∀b o,h.get? b=some o→H b=none→b∉fs→b∉ex→h'.get? b=some o
 slot:∀b o,h.get? b=some o→H b=none→b∈fs→b∉ex→∃sl,h'.get? b=some {o with slots:=sl}
 free:∀b o,h.get? b=some o→H b=none→b∉ex→H' b=none
 there:∀b o,h.get? b=some o→b∉ex→∃o',h'.get? b=some o'
 rj:∀b xs,H b=some (.tup xs)→H' b=some (.tup xs)
 uT:∀b o u,H b=some (.nA o u)→H' b=some (.nA o u)
 yF:∀b ps,H b=some (.Lz ps)→∃more,H' b=some (.Lz (ps++more))
section
variable{fs fs' ex ex':List Addr}{H H1 H2:Hp}{h h1 h2 h':Heap}{a x e:Addr}{o:HO}
theorem Un.any(u:Un fs ex H H1 h h1){b:Addr}{ob:Obj}(q:h.get? b=some ob)(n:H b=none)(hx:b∉ex):∃sl,h1.get? b=some {ob with slots:=sl}:=by
 by_cases hb:b∈fs
 ·exact u.slot b ob q n hb hx
 ·exact⟨ob.slots,u.keep b ob q n hb hx⟩
theorem Un.kept(k:∀b u,h.get? b=some u→h'.get? b=some u):Un fs ex H H h h':=
 ⟨fun b ob q _ _ _=>k b ob q,fun b ob q _ _ _=>⟨ob.slots,k b ob q⟩,fun _ _ _ n _=>n,fun b ob q _=>⟨ob,k b ob q⟩,fun _ _ q=>q,fun _ _ _ q=>q,fun _ ps q=>⟨#[],by rw[q];simp⟩⟩
theorem Un.refl:Un fs ex H H h h:=Un.kept fun _ _ q=>q
theorem Un.laid(k:∀b u,h.get? b=some u→h'.get? b=some u)(hp:h.objs.size≤a)(hn:H a=none):Un fs ex H (upd H a o) h h' where
 keep:=fun b u q _ _ _=>k b u q
 slot:=fun b u q _ _ _=>⟨u.slots,k b u q⟩
 free:=fun b u q n _=>by rw[e_ (aaT (aaE (aax q) hp))];exact n
 there:=fun b u q _=>⟨u,k b u q⟩
 rj:=fun b xs q=>by rw[e_ (gj q hn)];exact q
 uT:=fun b u xs q=>by rw[e_ (gj q hn)];exact q
 yF:=fun b ps q=>⟨#[],by rw[e_ (gj q hn),q];simp⟩
theorem Un.write(mu:Nh (H x))(he:e=x∨H e=some (.own x))(k:∀b u,b≠e→h.get? b=some u→h'.get? b=some u)(K6:∃u,h'.get? e=some u):Un fs ex H (upd H x o) h h':=by
 have hx:∀b,H b=none→b≠x:=fun b n z=>by subst z;rw[n] at mu;exact mu
 have hb:∀b,H b=none→b≠e:=fun b n z=>by
  subst z
  rcases he with r|r
  ·exact hx b n r
  ·rw[n] at r;cases r
 have hm:∀b u,H b=some u→¬Nh (some u)→b≠x:=fun b u q nm z=>by subst z;rw[q] at mu;exact nm mu
 refine⟨fun b u q n _ _=>k b u (hb b n) q,fun b u q n _ _=>⟨u.slots,k b u (hb b n) q⟩,fun b u q n _=>by rw[e_ (hx b n)];exact n,fun b u q _=>?_,
  fun b xs q=>by rw[e_ (hm b _ q fun z=>z)];exact q,fun b u xs q=>by rw[e_ (hm b _ q fun z=>z)];exact q,fun b ps q=>⟨#[],by rw[e_ (hm b _ q fun z=>z),q];simp⟩⟩
 by_cases PX:b=e
 ·subst PX;exact K6
 ·exact⟨u,k b u PX q⟩
end
noncomputable def UG(h:Heap)(H:Hp):List Addr:=(List.range h.objs.size).filter fun a=>(H a).isSome
noncomputable def Cm(h:Heap)(H:Hp):Heap:=W.hideAll h (UG h H)
theorem Hz(h:Heap)(H:Hp):(Cm h H).objs.size=h.objs.size:=W.hideAll_size _ _
theorem Jb{h:Heap}{H:Hp}{b:Addr}{o:Obj}(e:h.get? b=some o)(n:H b=none):(Cm h H).get? b=some o:=
 W.hideAll_get _ e fun hm=>by
  have q:(H b).isSome=true:=(ZH.mp hm).2
  rw[n] at q;simp at q
theorem LK{h:Heap}{H:Hp}{b:Addr}{o:Obj}(e:(Cm h H).get? b=some o):h.get? b=some o∧H b=none:=by
 have e':h.get? b=some o:=W.of_hideAll (UG h H) e
 refine⟨e',?_⟩
 cases q:H b with
 | none=>rfl
 | some x=>
  have hm:b∈UG h H:=ZH.mpr ⟨List.mem_range.mpr (aax e'),by simp[q]⟩
  have z:(Cm h H).get? b=none:=W.hideAll_none (UG h H) hm
  rw[z] at e;cases e
def LL(g h:Heap)(L:Addr):Qqz:=(List.range h.objs.size).filterMap fun a=>if a=L∨(g.get? a).isSome=true then none else(h.get? a).map fun o=>(a,o)
def rest(g h:Heap)(L d:Addr):Qqz:=(LL g h L).filter fun p=>decide (p.1≠d)
structure Mod(K:Qqy)(mg:Qqx)(base:Heap):Prop where
 QG:K.In base
 glob:base.Ns mainGlobals mg
 blt:∃mb,base.Ns builtinsNs mb∧∀x:Str,x≠"__name__"→mb x=bootBuiltins x
 nolimit:base.NoLimit
structure Cx where
 prog:Program
 w:World
 K:Qqy
 mg:Qqx
 base:Heap
 A:Around
 N:List Str
 s₀:Shared
 H₀:Hp
 env:Env
 outer:List Env
 stack:List Env
 ex:List Addr
 fn:Str→Bool
 calm:Bool
 pn:Qqz
 xe:Qqq
noncomputable def uf(l:List Env):List Addr:=l.filterMap (·.frame)
noncomputable abbrev Cx.fs(X:Cx):List Addr:=uf X.outer
def Vz(sc:Scope)(x:Str):Prop:=sc.names.lookup x=some .local∨sc.names.lookup x=some .cell∨sc.names.lookup x=some .free
def Loc(sc:Scope)(x:Str):Prop:=sc.names.lookup x=some .local∨sc.names.lookup x=some .cell
def Look(env:Env)(h:Heap)(m:Qqx)(x:Str)(u:Value):Prop:=
 (env.kindOf x=some .local∧m x=some u)∨((env.kindOf x=some .cell∨env.kindOf x=some .free)∧∃c,env.cells.lookup x=some c∧h.IsCell c (some u))
structure Cx.Ok(X:Cx):Prop where
 mod:Mod X.K X.mg X.base
 kind:X.env.scope.kind=.function
 glob:X.env.globals=mainGlobals
 blt:X.env.builtins=builtinsNs
 above:X.s₀.heap.objs.size≤X.env.locals
 inj:∀x y c,X.env.cells.lookup x=some c→X.env.cells.lookup y=some c→x=y
 has:∀x,(X.env.kindOf x=some .cell∨X.env.kindOf x=some .free)→∃c,X.env.cells.lookup x=some c
 QH:∀x c,X.fn x=true→X.env.cells.lookup x=some c→X.s₀.heap.objs.size≤c
 hd:X.calm=true→X.A.handled=none
 frames:X.A.frames=some X.stack
 Rj:X.stack=X.outer∨(X.stack=X.env::X.outer∧X.env.frame=some X.env.locals)
 VA:∀b∈X.ex,b≠X.env.locals∧∀x c,X.env.cells.lookup x=some c→c≠b
 bs:∀b o,X.base.get? b=some o→X.s₀.heap.get? b=some o∧X.H₀ b=none
 LM:X.base.objs.size≤X.s₀.heap.objs.size
 tF:∀b o,X.base.get? b=some o→b∉X.ex
 Jc:∀b∈X.ex,b∉X.fs
 uU:X.s₀.heap.FunFrames X.base X.outer
 Ni:∀b∈X.fs,X.H₀ b=none
structure Inv(X:Cx)(c_:Qqz)(σ:List (Option V))(H:Hp)(s:Shared):Prop where
 ok:X.Ok
 os:s.os=X.s₀.os
 bare:AllBare s.gens
 base:Un X.fs X.ex X.H₀ H X.s₀.heap s.heap
 loc:∃m,s.heap.Ns X.env.locals m∧∀(i:Nat)(x:Str)(v:V),X.N[i]?=some x→σ[i]?=some (some v)→Vz X.env.scope x→∃u,RelV v u∧Look X.env s.heap m x u
 cell:∀x c,X.env.cells.lookup x=some c→∃v,s.heap.IsCell c v
 free:H X.env.locals=none
 pJ:∀x c,X.env.cells.lookup x=some c→H c=none
 pin:∀p∈X.pn++c_,s.heap.get? p.1=some p.2∧H p.1=none∧p.1≠X.env.locals∧p.1∉X.fs∧∀v,p.2.data≠.cell v
 iP:rh X.prog X.w H s.heap
 len:σ.length=X.N.length
section
variable{X:Cx}{c_:Qqz}{σ:List (Option V)}{H H':Hp}{s:Shared}{h':Heap}
theorem Cx.Ok.LN(ok:X.Ok){b:Addr}{o:Obj}(e:X.base.get? b=some o):b∉X.fs:=fun hb=>by
 have:=(ok.uU.mem hb).1
 rw[e] at this;cases this
theorem Inv.bs(I:Inv X c_ σ H s):∀b o,X.base.get? b=some o→s.heap.get? b=some o∧H b=none:=fun b o e=>
 ⟨I.base.keep b o (I.ok.bs b o e).1 (I.ok.bs b o e).2 (I.ok.LN e) (I.ok.tF b o e),I.base.free b o (I.ok.bs b o e).1 (I.ok.bs b o e).2 (I.ok.tF b o e)⟩
theorem Inv.bk(I:Inv X c_ σ H s):∀b o,X.base.get? b=some o→s.heap.get? b=some o:=fun b o e=>(I.bs b o e).1
theorem Inv.mod(I:Inv X c_ σ H s):Mod X.K X.mg X.base:=I.ok.mod
theorem Inv.xB(I:Inv X c_ σ H s):X.K.In s.heap:=I.ok.mod.QG.keeps I.bk
theorem Inv.lt(I:Inv X c_ σ H s):X.env.locals<s.heap.objs.size:=let ⟨_,hn,_⟩:=I.loc;hn.lt
theorem Inv.sz(I:Inv X c_ σ H s):X.s₀.heap.objs.size≤s.heap.objs.size:=aac I.ok.above (Nat.le_of_lt I.lt)
theorem Inv.Rl(I:Inv X c_ σ H s){a:Addr}(h:s.heap.objs.size≤a):a∉X.fs:=fun hb=>by
 obtain⟨_,o,ho,_⟩:=I.ok.uU.mem hb
 exact absurd (aaE (aax ho) (aac I.sz h)) (abm _)
theorem Inv.Ob(I:Inv X c_ σ H s):∀x c,X.env.cells.lookup x=some c→c≠X.env.locals:=fun x c e z=>by
 obtain⟨v,o,ho,hd⟩:=I.cell x c e
 obtain⟨m,⟨o',es,ep,qJ,Wt,_⟩,_⟩:=I.loc
 rw[z,qJ] at ho;cases ho;rw[Wt] at hd;cases hd
theorem Inv.uU(I:Inv X c_ σ H s):s.heap.FunFrames X.base X.outer:=by
 have all:∀(l:List Env),(∀b∈uf l,b∈X.fs)→X.s₀.heap.FunFrames X.base l→s.heap.FunFrames X.base l:=by
  intro l
  induction l with
  | nil=>intro _ _;trivial
  | cons env r ih=>
   intro hs hl
   obtain⟨hk,⟨L,o,hf,hn,ho,hd⟩,hr⟩:=hl
   have hL:L∈X.fs:=hs L (by unfold uf;rw[abr,hf];exact aat)
   obtain⟨sl,e⟩:=I.base.slot L o ho (I.ok.Ni L hL) hL fun z=>I.ok.Jc L z hL
   exact⟨hk,⟨L,_,hf,hn,e,hd⟩,ih (fun b hb=>hs b (by unfold uf;rw[abr,hf];exact aad _ hb)) hr⟩
 exact all X.outer (fun _ hb=>hb) I.ok.uU
theorem Inv.stack(I:Inv X c_ σ H s):s.heap.FunFrames X.base X.stack:=by
 rcases I.ok.Rj with e|⟨e,hf⟩
 ·rw[e];exact I.uU
 ·rw[e]
  obtain⟨m,hn,_⟩:=I.loc
  refine .cons (by rw[I.ok.kind];decide) hf hn ?_ I.uU
  exact Heap.get?_none_of_le (aac I.ok.LM I.ok.above)
theorem Inv.wz(I:Inv X c_ σ H s):∀b∈uf X.stack,b∈X.env.locals::X.fs:=fun b hb=>by
 rcases I.ok.Rj with e|⟨e,hf⟩
 ·rw[e] at hb;exact aad _ hb
 ·rw[e] at hb
  unfold uf at hb
  rw[abr,hf] at hb
  exact hb
theorem Inv.Cn(I:Inv X c_ σ H s):∀b∈uf X.stack,H b=none:=fun b hb=>by
 rcases W3.mp (I.wz b hb) with e|hb
 ·rw[e];exact I.free
 ·obtain⟨_,o,ho,_⟩:=I.ok.uU.mem hb
  exact I.base.free b o ho (I.ok.Ni b hb) fun z=>I.ok.Jc b z hb
theorem Inv.step{g':Array GenState}{t':Nat}{d':Drawn}{ch:List Addr}(I:Inv X c_ σ H s)
  (LB:∀b∈ch,(b∈X.ex∨X.s₀.heap.objs.size≤b)∧b≠X.env.locals∧(∀x c,X.env.cells.lookup x=some c→c≠b)∧∀p∈X.pn++c_,p.1≠b)
  (keep:∀b o,b≠X.env.locals→b∉X.fs→b∉ch→s.heap.get? b=some o→H b=none→h'.get? b=some o)
  (slot:∀b o,b≠X.env.locals→b∈X.fs→b∉ch→s.heap.get? b=some o→H b=none→∃sl,h'.get? b=some {o with slots:=sl}) (free:∀b o,b∉ch→s.heap.get? b=some o→H b=none→H' b=none)
  (there:∀b o,b∉ch→s.heap.get? b=some o→∃o',h'.get? b=some o')
  (rj:∀b xs,H b=some (.tup xs)→H' b=some (.tup xs)) (uT:∀b o u,H b=some (.nA o u)→H' b=some (.nA o u)) (yF:∀b ps,H b=some (.Lz ps)→∃more,H' b=some (.Lz (ps++more)))
  (ns:∀m,s.heap.Ns X.env.locals m→h'.Ns X.env.locals m) (iP:rh X.prog X.w H' h') (hg:AllBare g') :
  Inv X c_ σ H' {s with heap:=h',gens:=g',drawn:=d',toks:=t'}:=by
 have ZL:∀b o,X.s₀.heap.get? b=some o→b≠X.env.locals:=fun b o e=>aaT (aaE (aax e) I.ok.above)
 have UO:∀b o,X.s₀.heap.get? b=some o→b∉X.ex→b∉ch:=fun b o e hx hb=>by
  rcases(LB b hb).1 with z|z
  ·exact hx z
  ·exact absurd (aaE (aax e) z) (abm _)
 have cellK:∀x c,X.env.cells.lookup x=some c→∀v,s.heap.IsCell c v→h'.IsCell c v:=fun x c e v ⟨o,ho,hd⟩=>by
  have SM:c∉ch:=fun z=>(LB c z).2.2.1 x c e rfl
  by_cases hc:c∈X.fs
  ·obtain⟨sl,q⟩:=slot c o (I.Ob x c e) hc SM ho (I.pJ x c e)
   exact⟨_,q,hd⟩
  ·exact⟨o,keep c o (I.Ob x c e) hc SM ho (I.pJ x c e),hd⟩
 refine⟨I.ok,I.os,hg,⟨fun b o e n hb hx=>?_,fun b o e n hb hx=>?_,fun b o e n hx=>?_,fun b o e hx=>?_,fun b xs e=>rj b xs (I.base.rj b xs e),fun b o xs e=>uT b o xs (I.base.uT b o xs e),fun b ps e=>?_⟩,?_,fun x c e=>?_,?_,fun x c e=>?_,fun p hp=>?_,iP,I.len⟩
 ·exact keep b o (ZL b o e) hb (UO b o e hx) (I.base.keep b o e n hb hx) (I.base.free b o e n hx)
 ·obtain⟨sl,e1⟩:=I.base.slot b o e n hb hx
  obtain⟨sl',e2⟩:=slot b _ (ZL b o e) hb (UO b o e hx) e1 (I.base.free b o e n hx)
  exact⟨sl',e2⟩
 ·obtain⟨o',e1⟩:=I.base.there b o e hx
  exact free b o' (UO b o e hx) e1 (I.base.free b o e n hx)
 ·obtain⟨o',e1⟩:=I.base.there b o e hx
  exact there b o' (UO b o e hx) e1
 ·obtain⟨m1,e1⟩:=I.base.yF b ps e
  obtain⟨m2,e2⟩:=yF b _ e1
  exact⟨m1++m2,by rw[e2,Array.append_assoc]⟩
 ·obtain⟨m,hn,hl⟩:=I.loc
  refine⟨m,ns m hn,fun i x v e1 e2 e3=>?_⟩
  obtain⟨u,r,l⟩:=hl i x v e1 e2 e3
  refine⟨u,r,?_⟩
  rcases l with l|⟨k,c,e,z⟩
  ·exact .inl l
  ·exact .inr ⟨k,c,e,cellK x c e _ z⟩
 ·obtain⟨v,z⟩:=I.cell x c e
  exact⟨v,cellK x c e v z⟩
 ·obtain⟨m,⟨o,_,_,ho,_⟩,_⟩:=I.loc
  exact free _ o (fun z=>(LB _ z).2.1 rfl) ho I.free
 ·obtain⟨v,o,ho,hd⟩:=I.cell x c e
  exact free c o (fun z=>(LB c z).2.2.1 x c e rfl) ho (I.pJ x c e)
 ·obtain⟨e,n,ne,nf,d⟩:=I.pin p hp
  have SM:p.1∉ch:=fun z=>(LB p.1 z).2.2.2 p hp rfl
  exact⟨keep p.1 p.2 ne nf SM e n,free p.1 p.2 SM e n,ne,nf,d⟩
theorem Inv.un{t':Nat}(I:Inv X c_ σ H s)(u:Un X.fs [] H H' s.heap h')(iP:rh X.prog X.w H' h'):Inv X c_ σ H' {s with heap:=h',toks:=t'}:=by
 obtain⟨m,⟨o,es,ep,ho,r⟩,_⟩:=id I.loc
 obtain⟨sl,hL⟩:=u.any ho I.free (by simp)
 exact I.step (g':=s.gens) (d':=s.drawn) (ch:=[]) (fun _ z=>nomatch z) (fun b o _ hb _ e n=>u.keep b o e n hb (by simp)) (fun b o _ hb _ e n=>u.slot b o e n hb (by simp)) (fun b o _ e n=>u.free b o e n (by simp)) (fun b o _ e=>u.there b o e (by simp)) u.rj u.uT u.yF (fun m' hm=>by
  obtain⟨o',QS,NJ,qJ,r'⟩:=hm
  rw[ho] at qJ;cases qJ
  exact⟨_,QS,NJ,hL,r'⟩) iP I.bare
theorem Inv.call{g':Array GenState}{t':Nat}{d':Drawn}{ch:List Addr}(I:Inv X c_ σ H s)(u:Un (uf X.stack) ch H H' s.heap h')(iP:rh X.prog X.w H' h')(hg:AllBare g')
  (LB:∀b∈ch,(b∈X.ex∨X.s₀.heap.objs.size≤b)∧b≠X.env.locals∧(∀x c,X.env.cells.lookup x=some c→c≠b)∧∀p∈X.pn++c_,p.1≠b) :
  Inv X c_ σ H' {s with heap:=h',gens:=g',drawn:=d',toks:=t'}:=by
 obtain⟨m,⟨o,es,ep,ho,r⟩,_⟩:=id I.loc
 obtain⟨sl,hL⟩:=u.any ho I.free fun z=>(LB _ z).2.1 rfl
 exact I.step (ch:=ch) LB (fun b o hL hb hc e n=>u.keep b o e n (fun z=>(W3.mp (I.wz b z)).elim hL hb) hc) (fun b o _ _ hc e n=>u.any e n hc) (fun b o hc e n=>u.free b o e n hc) (fun b o hc e=>u.there b o e hc) u.rj u.uT u.yF (fun m' hm=>by
  obtain⟨o',QS,NJ,qJ,r'⟩:=hm
  rw[ho] at qJ;cases qJ
  exact⟨_,QS,NJ,hL,r'⟩) iP hg
theorem Inv.turned{t':Nat}{it:Addr}(I:Inv X c_ σ H s)(k:∀b o,b≠it→s.heap.get? b=some o→h'.get? b=some o)(hn:H it=none)(hL:it≠X.env.locals)
  (h1:it∈X.ex∨X.s₀.heap.objs.size≤it) (h2:∀x c,X.env.cells.lookup x=some c→c≠it) (h3:∀p∈X.pn++c_,p.1≠it):Inv X c_ σ H {s with heap:=h',toks:=t'}:=by
 have ZM:∀b u,H b=some u→b≠it:=fun b u e z=>by rw[z,hn] at e;cases e
 refine I.step (g':=s.gens) (d':=s.drawn) (ch:=[it]) (fun b hb=>?_) (fun b o _ _ hc e _=>k b o (fun z=>hc (by simp[z])) e) (fun b o _ _ hc e _=>⟨o.slots,k b o (fun z=>hc (by simp[z])) e⟩) (fun _ _ _ _ n=>n)
  (fun b o hc e=>⟨o,k b o (fun z=>hc (by simp[z])) e⟩) (fun _ _ e=>e) (fun _ _ _ e=>e) (fun b ps e=>⟨#[],by rw[e];simp⟩) (fun m hm=>?_) (fun b u e=>?_) I.bare
 ·have e:b=it:=by simpa using hb
  subst e
  exact⟨h1,hL,h2,h3⟩
 ·obtain⟨o,es,ep,ho,r⟩:=hm
  exact⟨o,es,ep,k _ o (abJ hL) ho,r⟩
 ·refine(I.iP b u e).zh (fun c v hc q=>k c v ?_ q) (fun _ q=>q) fun _ _ q=>q
  rcases hc with z|z
  ·rw[z];exact ZM b u e
  ·exact ZM c _ z
theorem Inv.tok(I:Inv X c_ σ H s)(t:Nat):Inv X c_ σ H {s with toks:=t}:=I.un (h':=s.heap) (t':=t) Un.refl I.iP
theorem Inv.kept{t':Nat}(I:Inv X c_ σ H s)(k:∀b u,s.heap.get? b=some u→h'.get? b=some u):Inv X c_ σ H {s with heap:=h',toks:=t'}:=I.un (Un.kept k) (I.iP.kept k)
theorem Inv.laid{a:Addr}{o:HO}{t':Nat}(I:Inv X c_ σ H s)(k:∀b u,s.heap.get? b=some u→h'.get? b=some u)(hp:s.heap.objs.size≤a)(new:i9 X.prog X.w (upd H a o) h' a o) :
 Inv X c_ σ (upd H a o) {s with heap:=h',toks:=t'}:=I.un (Un.laid k hp (I.iP.fresh hp)) (I.iP.laid k hp new)
theorem Inv.write{x e:Addr}{o:HO}{t':Nat}(I:Inv X c_ σ H s)(mu:Nh (H x))(he:e=x∨H e=some (.own x))(k:∀b u,b≠e→s.heap.get? b=some u→h'.get? b=some u)(K6:∃u,h'.get? e=some u)
 (new:i9 X.prog X.w (upd H x o) h' x o):Inv X c_ σ (upd H x o) {s with heap:=h',toks:=t'}:=I.un (Un.write mu he k K6) (I.iP.write mu he k K6 new)
theorem Inv.yX{NK:Qqz}(I:Inv X c_ σ H s)(h:∀p∈NK,s.heap.get? p.1=some p.2∧H p.1=none∧p.1≠X.env.locals∧p.1∉X.fs∧∀v,p.2.data≠.cell v):Inv X NK σ H s:=
 ⟨I.ok,I.os,I.bare,I.base,I.loc,I.cell,I.free,I.pJ,fun p hp=>(W9.mp hp).elim (fun z=>I.pin p (aal _ z)) (h p),I.iP,I.len⟩
theorem DU{N:List Str}(hN:N.Nodup){i j:Nat}{x:Str}(a:N[i]?=some x)(b:N[j]?=some x):i=j:=by
 obtain⟨h1,e1⟩:=List.getElem?_eq_some_iff.mp a
 obtain⟨h2,e2⟩:=List.getElem?_eq_some_iff.mp b
 exact(List.getElem_inj hN).mp (e1.trans e2.symm)
theorem By{M:Model}{A:Around}{E:Qqq}{i:Nat}{x:Str}{v:V}{u:Value}{Q:Unit→Shared→Prop}(I:Inv X c_ σ H s)(hN:X.N.Nodup)(hi:X.N[i]?=some x)(hx:Loc X.env.scope x)(r:RelV v u)
  (h:∀s',Inv X c_ (σ.set i (some v)) H s'→(∃a,Heap.SameBut a s.heap s'.heap∧(a=X.env.locals∨X.env.cells.lookup x=some a))→Q () s') (hf:X.fn x=true∨X.env.scope.names.lookup x=some .local:=by first|exact .inl rfl|exact .inr rfl|assumption):wpAny M A (storeName X.env x u) Q E s:=by
 obtain⟨m,hn,hl⟩:=id I.loc
 have Wu:(X.env.scope.kind ==.class||(X.env.scope.kind ==.module&&X.env.locals != X.env.globals))=false:=by rw[I.ok.kind];rfl
 have ZN:i<σ.length:=by rw[I.len];exact(List.getElem?_eq_some_iff.mp hi).1
 have Ob:=I.Ob
 have tracked:∀{a:Addr} {h':Heap},(∃o,s.heap.get? a=some o∧H a=none)→Heap.SameBut a s.heap h'→rh X.prog X.w H h':=fun{a h'} ha hs b ob e=>by
  obtain⟨_,_,yC⟩:=ha
  refine(I.iP b ob e).zh (fun c w' hc q=>(hs.2 c ?_).trans q) (fun _ q=>q) fun _ _ q=>q
  rintro rfl
  rcases hc with rfl|hc
  ·rw[yC] at e;cases e
  ·rw[yC] at hc;cases hc
 rcases hx with hk|hk
 ·refine wpAny_storeName_local hk hn (fun h' QT hs=>?_) Wu
  obtain⟨oL,_,_,hoL,_⟩:=id hn
  refine h _ ⟨I.ok,I.os,I.bare,⟨fun b o e n hb hx=>?_,fun b o e n hb hx=>?_,I.base.free,fun b o e hx=>?_,I.base.rj,I.base.uT,I.base.yF⟩,⟨_,QT,fun j y v' e1 e2 e3=>?_⟩,fun y c e=>?_,I.free,I.pJ,fun p hp=>?_,tracked ⟨oL,hoL,I.free⟩ hs,by simpa using I.len⟩ ⟨_,hs,.inl rfl⟩
  ·exact(hs.2 b (aaT (aaE (aax e) I.ok.above))).trans (I.base.keep b o e n hb hx)
  ·obtain⟨sl,e1⟩:=I.base.slot b o e n hb hx
   exact⟨sl,(hs.2 b (aaT (aaE (aax e) I.ok.above))).trans e1⟩
  ·obtain⟨o',e1⟩:=I.base.there b o e hx
   exact⟨o',(hs.2 b (aaT (aaE (aax e) I.ok.above))).trans e1⟩
  ·by_cases hj:j=i
   ·subst hj
    rw[hi] at e1;cases e1
    rw[abd ZN] at e2
    cases e2
    exact⟨u,r,.inl ⟨hk,by simp⟩⟩
   ·rw[abn (abJ hj)] at e2
    obtain⟨u',r',q⟩:=hl j y v' e1 e2 e3
    refine⟨u',r',?_⟩
    rcases q with⟨k,e⟩|⟨k,c,e,z⟩
    ·refine .inl ⟨k,?_⟩
     have:y≠x:=fun e=>hj (DU hN e1 (e▸hi))
     simp[this,e]
    ·exact .inr ⟨k,c,e,z.sameBut hs (Ob y c e)⟩
  ·obtain⟨w',z⟩:=I.cell y c e
   exact⟨w',z.sameBut hs (Ob y c e)⟩
  ·obtain⟨e,n,ne,nf,d⟩:=I.pin p hp
   exact⟨(hs.2 p.1 ne).trans e,n,ne,nf,d⟩
 ·have NL:X.fn x=true:=by
   rcases hf with z|z
   ·exact z
   ·rw[z] at hk;cases hk
  obtain⟨c,hc⟩:=I.ok.has x (.inl hk)
  obtain⟨w',z⟩:=I.cell x c hc
  refine wpAny_storeName_cell I.ok.kind hk hc z (fun h' Cf hs=>?_)
  obtain⟨oc,ZO,Wv⟩:=id z
  refine h {s with heap:=h'} ⟨I.ok,I.os,I.bare,⟨fun b o e n hb hx=>?_,fun b o e n hb hx=>?_,I.base.free,fun b o e hx=>?_,I.base.rj,I.base.uT,I.base.yF⟩,⟨m,hn.sameBut hs (abJ (Ob x c hc)),fun j y v' e1 e2 e3=>?_⟩,fun y c' e=>?_,I.free,I.pJ,fun p hp=>?_,tracked ⟨oc,ZO,I.pJ x c hc⟩ hs,by simpa using I.len⟩ ⟨c,hs,.inr hc⟩
  ·exact(hs.2 b (aaT (aaE (aax e) (I.ok.QH x c NL hc)))).trans (I.base.keep b o e n hb hx)
  ·obtain⟨sl,e1⟩:=I.base.slot b o e n hb hx
   exact⟨sl,(hs.2 b (aaT (aaE (aax e) (I.ok.QH x c NL hc)))).trans e1⟩
  ·obtain⟨o',e1⟩:=I.base.there b o e hx
   exact⟨o',(hs.2 b (aaT (aaE (aax e) (I.ok.QH x c NL hc)))).trans e1⟩
  ·by_cases hj:j=i
   ·subst hj
    rw[hi] at e1;cases e1
    rw[abd ZN] at e2
    cases e2
    exact⟨u,r,.inr ⟨.inl hk,c,hc,Cf⟩⟩
   ·rw[abn (abJ hj)] at e2
    obtain⟨u',r',q⟩:=hl j y v' e1 e2 e3
    refine⟨u',r',?_⟩
    rcases q with q|⟨k,c',e,z'⟩
    ·exact .inl q
    ·refine .inr ⟨k,c',e,z'.sameBut hs ?_⟩
     rintro rfl
     exact hj (DU hN e1 (I.ok.inj _ _ _ e hc▸hi))
  ·by_cases UP:c'=c
   ·subst UP;exact⟨_,Cf⟩
   ·obtain⟨w2,z2⟩:=I.cell y c' e
    exact⟨w2,z2.sameBut hs UP⟩
  ·obtain⟨e,n,ne,nf,d⟩:=I.pin p hp
   refine⟨(hs.2 p.1 ?_).trans e,n,ne,nf,d⟩
   intro q
   rw[q,ZO] at e
   have q':oc=p.2:=aau e
   exact d w' (by rw[←q'];exact Wv)
theorem DV{M:Model}{A:Around}{E:Qqq}{i:Nat}{x:Str}{v:V}{u:Value}{Q:Unit→Shared→Prop}(I:Inv X c_ σ H s)(hN:X.N.Nodup)(hi:X.N[i]?=some x)(hx:Loc X.env.scope x)(r:RelV v u)
  (h:∀s',Inv X c_ (σ.set i (some v)) H s'→Q () s') (hf:X.fn x=true∨X.env.scope.names.lookup x=some .local:=by first|exact .inl rfl|exact .inr rfl|assumption):wpAny M A (storeName X.env x u) Q E s:=
 By I hN hi hx r (fun s' I' _=>h s' I') hf
theorem Inv.Rm{s':Shared}{ch:List Addr}(I:Inv X c_ σ H s)(ho:s'.os=s.os)(u:Un (uf X.stack) ch H H' s.heap s'.heap)(iP:rh X.prog X.w H' s'.heap)(hg:AllBare s'.gens)
  (LB:∀b∈ch,(b∈X.ex∨X.s₀.heap.objs.size≤b)∧b≠X.env.locals∧(∀x c,X.env.cells.lookup x=some c→c≠b)∧∀p∈X.pn++c_,p.1≠b):Inv X c_ σ H' s':=by
 obtain⟨h',g',d',t',o'⟩:=s'
 have e:o'=s.os:=ho
 subst e
 exact I.call (g':=g') (t':=t') (d':=d') u iP hg LB
end
abbrev XK:=Value→Option Addr→Hp→Prop
abbrev St:=List (Option V)
abbrev VK:=V→Hp→Prop
abbrev TE:=St→Hp→VK→Prop
abbrev TT:=St→Hp→(Bool→Hp→Prop)→Prop
abbrev TA:=St→Hp→(List V→Hp→Prop)→Prop
structure Ends where
 nx:St→Hp→Prop
 rt:VK
 bk:St→Hp→Prop:=fun _ _=>False
 ct:St→Hp→Prop:=fun _ _=>False
abbrev TS:=Ends→St→Hp→Prop
def EP(X:Cx)(c_:Qqz)(σ:St)(Q:VK)(u:Value)(s':Shared):Prop:=∃v H',Inv X c_ σ H' s'∧RelV v u∧Q v H'
def TP(X:Cx)(c_:Qqz)(σ:St)(Q:Bool→Hp→Prop)(b:Bool)(s':Shared):Prop:=∃H',Inv X c_ σ H' s'∧Q b H'
def AP(X:Cx)(c_:Qqz)(σ:St)(Q:List V→Hp→Prop)(us:List Value)(s':Shared):Prop:=∃vs H',Inv X c_ σ H' s'∧Vals vs us∧Q vs H'
def SP(X:Cx)(c_:Qqz)(D:Ends)(f:Flow)(s':Shared):Prop:=
 match f with
 | .next=>∃σ' H',Inv X c_ σ' H' s'∧D.nx σ' H'
 | .brk=>∃σ' H',Inv X c_ σ' H' s'∧D.bk σ' H'
 | .cont=>∃σ' H',Inv X c_ σ' H' s'∧D.ct σ' H'
 | .ret u=>∃v σ' H',Inv X c_ σ' H' s'∧RelV v u∧D.rt v H'
def PE(X:Cx)(e:Expr)(t:TE):Prop:=
 ∀(c_:Qqz)(s:Shared)(σ:St)(H:Hp)(Q:VK),Inv X c_ σ H s→t σ H Q→wpAny (model X.prog X.w) X.A (eval e X.env) (EP X c_ σ Q) X.xe s
def PT(X:Cx)(e:Expr)(t:TT):Prop:=
 ∀(c_:Qqz)(s:Shared)(σ:St)(H:Hp)(Q:Bool→Hp→Prop),Inv X c_ σ H s→t σ H Q→wpAny (model X.prog X.w) X.A (isTrue e X.env (eval e X.env)) (TP X c_ σ Q) X.xe s
def PW(X:Cx)(e:Expr)(t:TT):Prop:=
 ∀(whole:Sem Value)(c_:Qqz)(s:Shared)(σ:St)(H:Hp)(Q:Bool→Hp→Prop),Inv X c_ σ H s→t σ H Q→wpAny (model X.prog X.w) X.A (isTrue e X.env whole) (TP X c_ σ Q) X.xe s
theorem PW.pt{X:Cx}{e:Expr}{t:TT}(h:PW X e t):PT X e t:=h _
def PA(X:Cx)(es:List Expr)(t:TA):Prop:=
 ∀(pos:Pos)(c_:Qqz)(s:Shared)(σ:St)(H:Hp)(Q:List V→Hp→Prop),Inv X c_ σ H s→t σ H Q→wpAny (model X.prog X.w) X.A (spliced (backTo pos (starEach es X.env))) (AP X c_ σ Q) X.xe s
def PS(X:Cx)(st:Stmt)(t:TS):Prop:=
 ∀(c_:Qqz)(s:Shared)(σ:St)(H:Hp)(D:Ends),Inv X c_ σ H s→t D σ H→wpAny (model X.prog X.w) X.A (exec st X.env) (SP X c_ D) X.xe s
def Fn(X:Cx)(st:List Stmt)(t:TS):Prop:=
 ∀(c_:Qqz)(s:Shared)(σ:St)(H:Hp)(D:Ends),Inv X c_ σ H s→t D σ H→wpAny (model X.prog X.w) X.A (execs st X.env) (SP X c_ D) X.xe s
theorem i8{α:Type}{t:Sem α}{Q Q':α→Shared→Prop}{M:Model}{A:Around}{E:Qqq}{s:Shared}(h:wpAny M A t Q E s)(hQ:∀a s,Q a s→Q' a s):wpAny M A t Q' E s:=abt h hQ fun _ _ x=>x
section
variable{X:Cx}
def Rn(i:Nat):TE:=fun σ H Q=>∃v,σ[i]?=some (some v)∧Q v H
def tC(v:V):TE:=fun _ H Q=>Q v H
theorem Oc{i:Nat}{x:Str}{pos:Pos}(hN:X.N[i]?=some x)(hv:Vz X.env.scope x)(hd:(x ==("__debug__":Str))=false:=by decide)(Cg:(x ==("__classdict__":Str))=false:=by decide):PE X (.Name x pos) (Rn i):=by
 intro c_ s σ H Q I h
 obtain⟨v,e,h⟩:=h
 obtain⟨m,hn,hl⟩:=I.loc
 obtain⟨u,r,l⟩:=hl i x v hN e hv
 have fin:EP X c_ σ Q u s:=⟨v,H,I,r,h⟩
 rcases l with⟨hk,hm⟩|⟨hk,c,hc,NM⟩
 ·exact wpAny_Name (wpAny_loadName_local I.ok.kind hk hn hm fin) hd
 ·rcases hk with hk|hk
  ·exact wpAny_Name (wpAny_loadName_cell I.ok.kind hk hc NM fin) hd
  ·exact wpAny_Name (wpAny_loadName_free I.ok.kind hk hc NM fin Cg) hd
theorem f_{i j pos}:PE X (.Constant (.int i) j pos) (tC (.int i)):=fun _ _ _ H _ I h=>wpAny_Constant_int ⟨.int i,H,I.tok _,⟨_,rfl⟩,h⟩
theorem kW{b j pos}:PE X (.Constant (.bool b) j pos) (tC (.bl b)):=fun _ _ _ H _ I h=>Constant_bool ⟨.bl b,H,I,rfl,h⟩
theorem ug{j pos}:PE X (.Constant .none j pos) (tC .jo):=fun _ _ _ H _ I h=>Constant_none ⟨.jo,H,I,rfl,h⟩
theorem i_{x j pos}:PE X (.Constant (.str x) j pos) (tC (.str x)):=fun _ _ _ H _ I h=>Calls.Constant_str ⟨.str x,H,I.tok _,⟨_,rfl⟩,h⟩
def Gl(X:Cx)(x:Str):Prop:=X.env.kindOf x=some .globalImplicit
theorem uV{E:Qqq}{c_:Qqz}{s:Shared}{σ:St}{H:Hp}{x:Str}{u:Value}{pos:Pos}{Q:Qqq}(I:Inv X c_ σ H s)(hg:Gl X x)(hm:X.mg x=some u)(h:Q u s)
  (hd:(x ==("__debug__":Str))=false:=by decide):wpAny (model X.prog X.w) X.A (eval (.Name x pos) X.env) Q E s:=
 Calls.Name_function_global I.ok.kind hg (Calls.loadGlobal_global (by rw[I.ok.glob];exact I.mod.glob.keeps I.bk) hm h) hd
theorem pe{E:Qqq}{c_:Qqz}{s:Shared}{σ:St}{H:Hp}{x:Str}{u:Value}{pos:Pos}{Q:Qqq}(I:Inv X c_ σ H s)(hg:Gl X x)(hm:X.mg x=none)(hv:bootBuiltins x=some u)(h:Q u s)
  (hn:x≠"__name__":=by decide) (hd:(x ==("__debug__":Str))=false:=by decide):wpAny (model X.prog X.w) X.A (eval (.Name x pos) X.env) Q E s:=by
 obtain⟨mb,h1,h2⟩:=I.mod.blt
 exact Calls.Name_function_global I.ok.kind hg (Calls.loadGlobal_builtin (by rw[I.ok.glob];exact I.mod.glob.keeps I.bk) hm (by rw[I.ok.blt];exact h1.keeps I.bk) ((h2 x hn).trans hv) h) hd
theorem Co{x:Str}{v:V}{u:Value}{pos:Pos}(hg:Gl X x)(hm:X.mg x=some u)(r:RelV v u)(hd:(x ==("__debug__":Str))=false:=by decide):PE X (.Name x pos) (tC v):=
 fun _ _ _ H _ I h=>uV I hg hm ⟨v,H,I,r,h⟩ hd
theorem oH{x:Str}{v:V}{u:Value}{pos:Pos}(hg:Gl X x)(hm:X.mg x=none)(hv:bootBuiltins x=some u)(r:RelV v u)(hn:x≠"__name__":=by decide)(hd:(x ==("__debug__":Str))=false:=by decide):PE X (.Name x pos) (tC v):=
 fun _ _ _ H _ I h=>pe I hg hm hv ⟨v,H,I,r,h⟩ hn hd
variable{a b:Expr}{ta tb:TE}{pos:Pos}
def PC(X:Cx)(op:CmpOp)(a b:Expr)(t:TE):Prop:=
 ∀(c_:Qqz)(s:Shared)(σ:St)(H:Hp)(Q:VK),Inv X c_ σ H s→t σ H Q→
  wpAny (model X.prog X.w) X.A (eval a X.env) (fun v s₁=>wpAny (model X.prog X.w) X.A (eval b X.env) (fun u s₂=>wpAny (model X.prog X.w) X.A (compareOp op v u) (EP X c_ σ Q) X.xe s₂) X.xe s₁) X.xe s
theorem DW(b:Expr){op:CmpOp}(h:op≠.In)(h2:op≠.NotIn):behindInMarks op b=false:=by
 have e1:(op ==CmpOp.In)=false:=by cases op<;>first|rfl|exact absurd rfl h
 have e2:(op ==CmpOp.NotIn)=false:=by cases op<;>first|rfl|exact absurd rfl h2
 cases b<;>simp[behindInMarks,e1,e2]
def Ro(ta:TE):TE:=fun σ H Q=>ta σ H fun x H1=>Q (.bl (!decide (x=.jo))) H1
theorem RelV.Jd{x:V}{v:Value}(r:RelV x v):(v ==Value.none)=decide (x=.jo):=by
 cases x with
 | jo=>cases r;rfl
 | bl _=>cases r;rfl
 | int _=>obtain⟨t,rfl⟩:=r;rfl
 | str _=>obtain⟨t,rfl⟩:=r;rfl
 | Fu _=>obtain⟨t,rfl⟩:=r;rfl
 | Ng _=>obtain⟨t,rfl⟩:=r;rfl
 | ref _=>cases r;rfl
 | ty _=>cases r;rfl
theorem sV{j pos'}(ha:PE X a ta):PC X .IsNot a (.Constant .none j pos') (Ro ta):=by
 intro c_ s σ H Q I h
 refine i8 (ha c_ s σ H _ I h) fun v s1 iM=>?_
 obtain⟨x,H1,I1,r1,q1⟩:=iM
 exact Constant_none (isnot_none_gen ⟨.bl _,H1,I1,by rw[r1.Jd];rfl,q1⟩)
def tB(t:TE):TT:=fun σ H Q=>t σ H fun x H1=>∃c,x=.bl c∧Q c H1
theorem Od{op:CmpOp}{t:TE}(h:PC X op a b t)(h1:behindInMarks op b=false:=by first|exact DW _ (by decide) (by decide)|rfl):PE X (.Compare a [op] [b] pos) t:=fun c_ s σ H Q I hw=>wpAny_Compare1 (h c_ s σ H Q I hw) h1
theorem jt{op:CmpOp}{t:TE}(h:PC X op a b t)(h1:behindInMarks op b=false:=by first|exact DW _ (by decide) (by decide)|rfl):PT X (.Compare a [op] [b] pos) (tB t):=by
 intro c_ s σ H Q I hw
 refine wpAny_isTrue_Compare1 (i8 (h c_ s σ H _ I hw) fun v s1 h1=>i8 h1 fun u s2 h2=>i8 h2 fun c s3 iM=>?_) h1
 obtain⟨x,H1,I1,r1,q1⟩:=iM
 obtain⟨d,rfl,q⟩:=q1
 cases r1
 exact abu ⟨H1,I1,q⟩
theorem mf{e:Expr}{t:TE}(h:PE X e t)(he:∀whole,isTrue e X.env whole=(do let v ←whole;standAt e.pos;holding [v] (truthy v)):=by intro _;rfl):PT X e (tB t):=by
 intro c_ s σ H Q I hw
 refine isTrue_plain (i8 (h c_ s σ H _ I hw) fun v s1 iM=>?_) (he _)
 obtain⟨x,H1,I1,r1,q1⟩:=iM
 obtain⟨d,rfl,q⟩:=q1
 cases r1
 exact abu ⟨H1,I1,q⟩
variable{tA UQ:TT}{rest:List Expr}
def VB(t u:TT):TT:=fun σ H Q=>t σ H fun c H1=>if c=true then u σ H1 Q else Q false H1
def tOr(t u:TT):TT:=fun σ H Q=>t σ H fun c H1=>if c=true then Q true H1 else u σ H1 Q
def VC(t:TT):TT:=fun σ H Q=>t σ H fun c H1=>Q (!c) H1
theorem pw_and1(ha:PT X a tA):PW X (.BoolOp .And [a] pos) tA:=by
 intro wh c_ s σ H Q I h
 refine isTrue_and (i8 (ha c_ s σ H Q I h) fun c s1 e=>?_)
 cases c with
 | true=>exact isTrue_and_nil e
 | false=>exact e
theorem pw_or1(ha:PT X a tA):PW X (.BoolOp .Or [a] pos) tA:=by
 intro wh c_ s σ H Q I h
 refine isTrue_or (i8 (ha c_ s σ H Q I h) fun c s1 e=>?_)
 cases c with
 | false=>exact isTrue_or_nil e
 | true=>exact e
theorem pw_and(ha:PT X a tA)(hb:PW X (.BoolOp .And (b::rest) pos) UQ):PW X (.BoolOp .And (a::b::rest) pos) (VB tA UQ):=by
 intro wh c_ s σ H Q I h
 refine isTrue_and (i8 (ha c_ s σ H _ I h) fun c s1 iM=>?_)
 obtain⟨H1,I1,q1⟩:=iM
 cases c with
 | true=>exact hb wh c_ s1 σ H1 Q I1 q1
 | false=>exact⟨H1,I1,q1⟩
theorem pw_or(ha:PT X a tA)(hb:PW X (.BoolOp .Or (b::rest) pos) UQ):PW X (.BoolOp .Or (a::b::rest) pos) (tOr tA UQ):=by
 intro wh c_ s σ H Q I h
 refine isTrue_or (i8 (ha c_ s σ H _ I h) fun c s1 iM=>?_)
 obtain⟨H1,I1,q1⟩:=iM
 cases c with
 | true=>exact⟨H1,I1,q1⟩
 | false=>exact hb wh c_ s1 σ H1 Q I1 q1
theorem ll(ha:PT X a tA):PT X (.UnaryOp .Not a pos) (VC tA):=by
 intro c_ s σ H Q I h
 exact isTrue_not (ha c_ s σ H (fun c H1=>Q (!c) H1) I h)
def Rp(ta tb:TE):TE:=fun σ H Q=>ta σ H fun x H1=>∃c,x=.bl c∧if c=true then tb σ H1 Q else Q (.bl false) H1
def Rq(ta:TE):TE:=fun σ H Q=>ta σ H fun x H1=>∃c,x=.bl c∧Q (.bl (!c)) H1
theorem Oe{op}{t:TE}(h:PE X a t):PE X (.BoolOp op [a] pos) t:=fun c_ s σ H Q I hw=>BoolOp_one (h c_ s σ H Q I hw)
theorem Of(ha:PE X a ta)(hb:PE X (.BoolOp .And (b::rest) pos) tb):PE X (.BoolOp .And (a::b::rest) pos) (Rp ta tb):=by
 intro c_ s σ H Q I h
 refine BoolOp_and (i8 (ha c_ s σ H _ I h) fun v s1 iM=>?_)
 obtain⟨x,H1,I1,r1,q1⟩:=iM
 obtain⟨c,rfl,q1⟩:=q1
 cases r1
 refine abu ?_
 cases c with
 | true=>exact hb c_ s1 σ H1 Q I1 q1
 | false=>exact⟨.bl false,H1,I1,rfl,q1⟩
theorem Og(ha:PE X a ta):PE X (.UnaryOp .Not a pos) (Rq ta):=by
 intro c_ s σ H Q I h
 refine UnaryOp_ (i8 (ha c_ s σ H _ I h) fun v s1 iM=>?_)
 obtain⟨x,H1,I1,r1,q1⟩:=iM
 obtain⟨c,rfl,q1⟩:=q1
 cases r1
 exact not_of (abu ⟨.bl (!c),H1,I1,rfl,q1⟩)
end
def hE(K:Qqy)(H:Hp)(a:Addr)(xs:List V):Prop:=
 Rd H a (.lst xs)∨
  ∃(o:Obj)(ib:Array Value)(n:Nat),K.lookup a=some o∧o.cls=.type "list"∧o.dict=none∧o.data=.seq ib n∧ib.size≤sizeLine∧Vals xs ib.toList
def rn(K:Qqy)(H:Hp)(a:Addr)(xs:List V):Prop:=
 Rd H a (.tup xs)∨
  ∃(o:Obj)(ib:Array Value)(n:Nat),K.lookup a=some o∧o.cls=.type "tuple"∧o.data=.seq ib n∧ib.size≤sizeLine∧Vals xs ib.toList
noncomputable def VD:Value→Option V
 | .none=>some .jo
 | .bool b=>some (.bl b)
 | .int i _=>some (.int i)
 | .str x _=>some (.str x)
 | .bytes b _=>some (.Fu b)
 | .float b _=>some (.Ng b)
 | .ref a=>some (.ref a)
 | .type n=>some (.ty n)
 | _=>none
theorem RelV.abs{x:V}{u:Value}(r:RelV x u):VD u=some x:=by
 cases x with
 | jo=>cases r;rfl
 | bl _=>cases r;rfl
 | int _=>obtain⟨t,rfl⟩:=r;rfl
 | str _=>obtain⟨t,rfl⟩:=r;rfl
 | Fu _=>obtain⟨t,rfl⟩:=r;rfl
 | Ng _=>obtain⟨t,rfl⟩:=r;rfl
 | ref _=>cases r;rfl
 | ty _=>cases r;rfl
theorem RelV.inj{x y:V}{u:Value}(r:RelV x u)(q:RelV y u):x=y:=aau (r.abs.symm.trans q.abs)
theorem Vals.inj:∀{xs ys:List V} {us:List Value},Vals xs us→Vals ys us→xs=ys
 | _,_,_,.nil,.nil=>rfl
 | _,_,_,.cons r t,.cons r' t'=>by rw[r.inj r',Vals.inj t t']
section
variable{X:Cx}{c_:Qqz}{σ:St}{H:Hp}{s:Shared}{a:Addr}{xs ys:List V}
theorem hE.of{K:Qqy}(h:H a=some (.lst xs)):hE K H a xs:=.inl (.inl h)
theorem rn.of{K:Qqy}(h:H a=some (.tup xs)):rn K H a xs:=.inl (.inl h)
theorem Inv.list(I:Inv X c_ σ H s)(h:hE X.K H a xs):∃ib:List Value,Vals xs ib∧PlainL s.heap a ib.toArray∧xs.length≤sizeLine:=by
 rcases h with h|⟨o,ib,n,hk,hc,hd,hs,hz,r⟩
 ·obtain⟨z,ib,n,r,e⟩:=h.ok I.iP
  exact⟨ib,r,⟨_,n,e,rfl,rfl,rfl⟩,z⟩
 ·refine⟨ib.toList,r,⟨o,n,I.xB a o hk,hc,hd,by simpa using hs⟩,?_⟩
  have e:=r.length
  simp only [abh] at e
  omega
theorem Inv.tuple(I:Inv X c_ σ H s)(h:rn X.K H a xs):∃ib:List Value,Vals xs ib∧IsTup s.heap a ib.toArray∧xs.length≤sizeLine:=by
 rcases h with h|⟨o,ib,n,hk,hc,hs,hz,r⟩
 ·obtain⟨z,ib,r,p⟩:=h.ok I.iP
  exact⟨ib,r,p,z⟩
 ·refine⟨ib.toList,r,⟨o,I.xB a o hk,hc,n,by simpa using hs⟩,?_⟩
  have e:=r.length
  simp only [abh] at e
  omega
theorem Inv.pK(I:Inv X c_ σ H s)(h:hE X.K H a xs)(h':hE X.K H a ys):xs=ys:=by
 obtain⟨ib,r,⟨o,n,e,_,_,d⟩,_⟩:=I.list h
 obtain⟨its',r',⟨o',n',e',_,_,d'⟩,_⟩:=I.list h'
 rw[e] at e';cases e'
 rw[d] at d'
 injection d' with d1 _
 have:ib=its':=by simpa using aa4 Array.toList d1
 subst this
 exact r.inj r'
theorem Inv.HA(I:Inv X c_ σ H s)(h:rn X.K H a xs)(h':rn X.K H a ys):xs=ys:=by
 obtain⟨ib,r,⟨o,e,_,n,d⟩,_⟩:=I.tuple h
 obtain⟨its',r',⟨o',e',_,n',d'⟩,_⟩:=I.tuple h'
 rw[e] at e';cases e'
 rw[d] at d'
 injection d' with d1 _
 have:ib=its':=by simpa using aa4 Array.toList d1
 subst this
 exact r.inj r'
end
noncomputable abbrev Cx.A3(X:Cx)(E:Qqq):Cx:={X with xe:=E}
noncomputable abbrev Cx.Rr(X:Cx):Cx:=X.A3 fun _ _=>False
theorem Cx.Ok.A3{X:Cx}(ok:X.Ok)(E:Qqq):(X.A3 E).Ok:=
 ⟨ok.mod,ok.kind,ok.glob,ok.blt,ok.above,ok.inj,ok.has,ok.QH,ok.hd,ok.frames,ok.Rj,ok.VA,ok.bs,ok.LM,ok.tF,ok.Jc,ok.uU,ok.Ni⟩
theorem Cx.Ok.rq{X:Cx}{E:Qqq}(ok:(X.A3 E).Ok):X.Ok:=
 ⟨ok.mod,ok.kind,ok.glob,ok.blt,ok.above,ok.inj,ok.has,ok.QH,ok.hd,ok.frames,ok.Rj,ok.VA,ok.bs,ok.LM,ok.tF,ok.Jc,ok.uU,ok.Ni⟩
section
variable{X:Cx}{c_:Qqz}{σ:St}{H:Hp}{s:Shared}{E:Qqq}
theorem Inv.A3(I:Inv X c_ σ H s)(E:Qqq):Inv (X.A3 E) c_ σ H s:=⟨I.ok.A3 E,I.os,I.bare,I.base,I.loc,I.cell,I.free,I.pJ,I.pin,I.iP,I.len⟩
theorem Inv.rq(I:Inv (X.A3 E) c_ σ H s):Inv X c_ σ H s:=⟨I.ok.rq,I.os,I.bare,I.base,I.loc,I.cell,I.free,I.pJ,I.pin,I.iP,I.len⟩
theorem SP.rq{D:Ends}{f:Flow}{s':Shared}(h:SP (X.A3 E) c_ D f s'):SP X c_ D f s':=by
 cases f with
 | next=>obtain⟨σ',H',I,q⟩:=h;exact⟨σ',H',I.rq,q⟩
 | brk=>obtain⟨σ',H',I,q⟩:=h;exact⟨σ',H',I.rq,q⟩
 | cont=>obtain⟨σ',H',I,q⟩:=h;exact⟨σ',H',I.rq,q⟩
 | ret u=>obtain⟨v,σ',H',I,r,q⟩:=h;exact⟨v,σ',H',I.rq,r,q⟩
theorem Fn.Rr{st:List Stmt}{t:TS}(h:Fn X.Rr st t):Fn X st t:=fun c_ s σ H D I hw=>
 abt (h c_ s σ H D (I.A3 _) hw) (fun _ _ q=>q.rq) fun _ _ z=>False.elim z
end
section
variable{X:Cx}{st:Stmt}{rest:List Stmt}{t u:TS}{e:Expr}{te:TE}{pos:Pos}
def Rt:TS:=fun D σ H=>D.nx σ H
def ic(t u:TS):TS:=fun D σ H=>t {D with nx:=u D} σ H
theorem hX:Fn X [] Rt:=fun _ _ σ H _ I h=>wpAny_execs_nil ⟨σ,H,I,h⟩
theorem de(h1:PS X st t)(h2:Fn X rest u):Fn X (st::rest) (ic t u):=by
 intro c_ s σ H D I h
 refine wpAny_execs_cons (i8 (h1 c_ s σ H {D with nx:=u D} I h) fun f s1 q=>?_)
 cases f with
 | next=>
  obtain⟨σ',H',I',q⟩:=q
  exact h2 c_ s1 σ' H' D I' q
 | ret v=>exact q
 | brk=>exact q
 | cont=>exact q
theorem fT(h1:PS X st t):Fn X [st] t:=by
 intro c_ s σ H D I h
 refine wpAny_execs_cons (i8 (h1 c_ s σ H D I h) fun f s1 q=>?_)
 cases f with
 | next=>exact wpAny_execs_nil q
 | ret v=>exact q
 | brk=>exact q
 | cont=>exact q
def Ru:TS:=fun D σ H=>D.ct σ H
theorem DX:PS X (.Continue pos) Ru:=fun _ _ σ H _ I h=>wpAny_Continue ⟨σ,H,I,h⟩
theorem Inv.quiet{c_:Qqz}{σ:St}{H:Hp}{s:Shared}(I:Inv X c_ σ H s):interactive X.env=false:=by simp[interactive,I.ok.kind]
def Rv(te:TE):TS:=fun D σ H=>te σ H fun _ H1=>D.nx σ H1
theorem g_(he:PE X e te)(hs:swapsWith e none pos.line X.env=pure false:=by rfl):PS X (.Expr e pos) (Rv te):=by
 intro c_ s σ H D I h
 exact wpAny_Expr_any (i8 (he c_ s σ H _ I h) fun v s1 ⟨x,H1,I1,r1,q1⟩=>⟨σ,H1,I1,q1⟩) I.quiet hs
def VE(te:TE):TS:=fun D σ H=>te σ H D.rt
theorem h_(he:PE X e te):PS X (.Return (some e) pos) (VE te):=by
 intro c_ s σ H D I h
 exact wpAny_Return_some (i8 (he c_ s σ H _ I h) fun v s1 ⟨x,H1,I1,r1,q1⟩=>⟨x,σ,H1,I1,r1,q1⟩)
def VF(c:TT)(t u:TS):TS:=fun D σ H=>c σ H fun b H1=>if b=true then t D σ H1 else u D σ H1
theorem iy{c:Expr}{a b:List Stmt}{tc:TT}(hc:PT X c tc)(ha:Fn X a t)(hb:Fn X b u):PS X (.If c a b pos) (VF tc t u):=by
 intro c_ s σ H D I h
 refine wpAny_If (i8 (hc c_ s σ H _ I h) fun d s1 iM=>?_)
 obtain⟨H1,I1,q1⟩:=iM
 cases d with
 | true=>exact ha c_ s1 σ H1 D I1 q1
 | false=>exact hb c_ s1 σ H1 D I1 q1
end
abbrev TG:=V→St→Hp→(St→Hp→Prop)→Prop
abbrev Oh:=List V→St→Hp→(St→Hp→Prop)→Prop
def PG(X:Cx)(target:Expr)(t:TG):Prop:=
 ∀(c_:Qqz)(s:Shared)(σ:St)(H:Hp)(v:V)(u:Value)(Q:St→Hp→Prop),Inv X c_ σ H s→RelV v u→t v σ H Q→
  wpAny (model X.prog X.w) X.A (assign target X.env u) (fun _ s'=>∃σ' H',Inv X c_ σ' H' s'∧Q σ' H') X.xe s
def UH(X:Cx)(ts:List Expr)(t:Oh):Prop:=
 ∀(c_:Qqz)(s:Shared)(σ:St)(H:Hp)(vs:List V)(us:List Value)(Q:St→Hp→Prop),Inv X c_ σ H s→Vals vs us→t vs σ H Q→
  wpAny (model X.prog X.w) X.A (assignInOrder ((assignEach ts X.env).map (·.2)) us) (fun _ s'=>∃σ' H',Inv X c_ σ' H' s'∧Q σ' H') X.xe s
abbrev Oi:=V→V→V→Hp→(Hp→Prop)→Prop
def Rw(X:Cx)(t:Oi):Prop:=
 ∀(c_:Qqz)(s:Shared)(σ:St)(H:Hp)(o i v:V)(ov iv u:Value)(Q:Hp→Prop),Inv X c_ σ H s→RelV o ov→RelV i iv→RelV v u→t o i v H Q→
  wpAny (model X.prog X.w) X.A (setItem ov iv u) (fun _ s'=>∃H',Inv X c_ σ H' s'∧Q H') X.xe s
section
variable{X:Cx}{pos:Pos}
def ma(i:Nat):TG:=fun v σ H Q=>Q (σ.set i (some v)) H
theorem iF{i:Nat}{x:Str}(hN:X.N.Nodup)(hi:X.N[i]?=some x)(hx:Loc X.env.scope x)(hf:X.fn x=true∨X.env.scope.names.lookup x=some .local:=by first|exact .inl rfl|exact .inr rfl|assumption):PG X (.Name x pos) (ma i):=by
 intro c_ s σ H v u Q I r h
 exact wpAny_assign_Name (DV I hN hi hx r (fun s' I'=>⟨_,H,I',h⟩) hf)
def VG:Oh:=fun vs σ H Q=>vs=[]∧Q σ H
def Rx(t:TG)(u:Oh):Oh:=fun vs σ H Q=>∃v r,vs=v::r∧t v σ H fun σ' H'=>u r σ' H' Q
theorem GI:UH X [] VG:=by
 intro c_ s σ H vs us Q I r h
 obtain⟨e,h⟩:=h
 subst e
 cases r
 exact assignInOrder_nil ⟨σ,H,I,h⟩
theorem uW{e:Expr}{es:List Expr}{t:TG}{u:Oh}(h1:PG X e t)(h2:UH X es u)
  (hs:(assignEach (e::es) X.env).map (·.2)=assign e X.env::(assignEach es X.env).map (·.2):=by rfl):UH X (e::es) (Rx t u):=by
 intro c_ s σ H vs us Q I r h
 obtain⟨v,vr,e1,h⟩:=h
 subst e1
 cases r with
 | cons r rr=>
  rw[hs]
  refine assignInOrder_cons (i8 (h1 c_ s σ H _ _ _ I r h) fun _ s1 iM=>?_)
  obtain⟨σ1,H1,I1,q1⟩:=iM
  exact h2 c_ s1 σ1 H1 _ _ Q I1 rr q1
def VH(K:Qqy)(n:Nat)(t:Oh):TG:=fun v σ H Q=>∃a xs,v=.ref a∧rn K H a xs∧xs.length=n∧t xs σ H Q
theorem Je{es:List Expr}{k:Nat}{t:Oh}{n:Nat}(hc:X.calm=true)(h:UH X es t)
  (hn:(assignEach es X.env).length=n:=by rfl) (lG:(assignEach es X.env).findIdx? (·.1)=none:=by rfl):PG X (.Tuple es k pos) (VH X.K n t):=by
 intro c_ s σ H v u Q I r hw
 obtain⟨a,xs,e1,hq,hl,hw⟩:=hw
 subst e1
 cases r
 obtain⟨ib,rv,ht,hz⟩:=I.tuple hq
 refine assign_Tuple_tuple (I.ok.hd hc) ht (by simp[hn,←hl,rv.length]) lG fun h' hx=>?_
 have I1:Inv X c_ σ H {s with heap:=h'}:=I.kept (t':=s.toks) fun b o e=>hx b o (aaT (aax e)) e
 exact h c_ _ σ H xs _ Q I1 (by simpa using rv) hw
def VI(to ti:TE)(t:Oi):TG:=fun v σ H Q=>to σ H fun o H1=>ti σ H1 fun i H2=>t o i v H2 fun H3=>Q σ H3
theorem uh{o i:Expr}{to ti:TE}{t:Oi}(ho:PE X o to)(hi:PE X i ti)(hs:Rw X t)
  (ha:∀v,assign (.Subscript o i pos) X.env v=(do
   let ov ←holding [v] (eval o X.env)
   let iv ←holding [v,ov] (eval i X.env)
   standAt pos
   holding [v,ov,iv] (setItem ov iv v)
   release [v,ov,iv] []):=by intro _;rfl):PG X (.Subscript o i pos) (VI to ti t):=by
 intro c_ s σ H v u Q I r h
 rw[ha]
 refine V8 (abL (i8 (ho c_ s σ H _ I h) fun ov s1 iM=>?_))
 obtain⟨x,H1,I1,r1,q1⟩:=iM
 refine V8 (abL (i8 (hi c_ s1 σ H1 _ I1 q1) fun iv s2 iM=>?_))
 obtain⟨y,H2,I2,r2,q2⟩:=iM
 refine V8 (wpAny_standAt (V8 (abL (i8 (hs c_ s2 σ H2 x y v ov iv u _ I2 r1 r2 r q2) fun _ s3 iM=>?_))))
 obtain⟨H3,I3,q3⟩:=iM
 exact wpAny_release ⟨σ,H3,I3,q3⟩
def Jf(te:TE)(g:TG):TS:=fun D σ H=>te σ H fun x H1=>g x σ H1 D.nx
theorem ui{tg e:Expr}{te:TE}{g:TG}(he:PE X e te)(hg:PG X tg g)(hs:swapsWithSole [tg] e pos.line X.env=pure false:=by rfl)(hw:swappedStores [tg] e X.env=pure none:=by rfl)
  (h1:(assignEach [tg] X.env).map (·.2)=[assign tg X.env]:=by rfl):PS X (.Assign [tg] e pos) (Jf te g):=by
 intro c_ s σ H D I h
 refine wpAny_Assign_stores (i8 (he c_ s σ H _ I h) fun v s1 iM=>?_) hs hw
 obtain⟨x,H1,I1,r1,q1⟩:=iM
 rw[h1]
 exact i8 (hg c_ s1 σ H1 x v _ I1 r1 q1) fun _ s2 q=>q
theorem mV{i:Nat}{x:Str}{e:Expr}{te:TE}{pos':Pos}(hN:X.N.Nodup)(hi:X.N[i]?=some x)(hx:Loc X.env.scope x)(he:PE X e te)(hs:swapsWith e (some (.Name x pos')) pos.line X.env=pure false:=by rfl)(hf:X.fn x=true∨X.env.scope.names.lookup x=some .local:=by first|exact .inl rfl|exact .inr rfl|assumption) :
  PS X (.Assign [.Name x pos'] e pos) (Jf te (ma i)):=by
 intro c_ s σ H D I h
 refine wpAny_Assign_Name (i8 (he c_ s σ H _ I h) fun v s1 iM=>?_) hs
 obtain⟨y,H1,I1,r1,q1⟩:=iM
 exact DV I1 hN hi hx r1 (fun s2 I2=>⟨_,H1,I2,q1⟩) hf
def Oj(c:TT)(tb:TS):TS:=fun D σ H=>∃W:Nat→St→Hp→Prop,(∃m,W m σ H)∧∀m σ H,W m σ H→
 c σ H fun b H1=>if b=true then ∃N:St→Hp→Prop,(∀σ' H',N σ' H'→∃m',m'<m∧W m' σ' H')∧tb {D with nx:=N,ct:=N,bk:=D.nx} σ H1 else D.nx σ H1
theorem DY{c:Expr}{body:List Stmt}{tc:TT}{tb:TS}(hp:PassesOwn (model X.prog X.w) X.A X.env X.xe)(hc:PT X c tc)(hb:Fn X body tb):PS X (.While c body [] pos) (Oj tc tb):=by
 intro c_ s σ H D I h
 obtain⟨W,⟨m0,w0⟩,turn⟩:=h
 refine wpAny_While (codeAny_whileLoop (fun n s'=>∃σ' H',Inv X c_ σ' H' s'∧W n σ' H') ?_ m0 ⟨σ,H,I,w0⟩)
 rintro n s1 ⟨σ1,H1,I1,w1⟩
 refine abS hp (i8 (hc c_ s1 σ1 H1 _ I1 (turn n σ1 H1 w1)) fun b s2 iM=>?_)
 obtain⟨H2,I2,q2⟩:=iM
 cases b with
 | true=>
  obtain⟨N,hN,q2⟩:=q2
  rw[aap rfl]
  refine abS hp (i8 (hb c_ s2 σ1 H2 _ I2 q2) fun f s3 q3=>?_)
  cases f with
  | next=>
   obtain⟨σ3,H3,I3,n3⟩:=q3
   obtain⟨m',hm,w3⟩:=hN σ3 H3 n3
   exact⟨m',hm,σ3,H3,I3,w3⟩
  | cont=>
   obtain⟨σ3,H3,I3,n3⟩:=q3
   obtain⟨m',hm,w3⟩:=hN σ3 H3 n3
   exact⟨m',hm,σ3,H3,I3,w3⟩
  | brk=>exact q3
  | ret v=>exact q3
 | false=>
  rw[aak aah]
  exact wpAny_execs_nil ⟨σ1,H2,I2,q2⟩
end
structure It where
 go:Nat→Hp→Prop
 Jg:Nat→Hp→V→Hp→Prop
 stop:Nat→Hp→Prop
def uj(X:Cx)(c_:Qqz)(H:Hp)(b:Addr):Prop:=
 H b=none∧b≠X.env.locals∧b∉X.fs∧(b∈X.ex∨X.s₀.heap.objs.size≤b)∧(∀x c,X.env.cells.lookup x=some c→c≠b)∧∀p∈X.pn++c_,p.1≠b
theorem Inv.zi{X:Cx}{c_:Qqz}{σ:St}{H H':Hp}{s:Shared}{b:Addr}(I:Inv X c_ σ H s)(hb:s.heap.objs.size≤b)(hn:H' b=none):uj X c_ H' b:=by
 refine⟨hn,Nat.ne_of_gt (aaE I.lt hb),I.Rl hb,.inr (aac I.sz hb),fun x c e z=>?_,fun p hp z=>?_⟩
 ·obtain⟨v,q⟩:=I.cell x c e
  exact absurd (aaE q.lt (by rw[z];exact hb)) (abm _)
 ·exact absurd (aaE (aax (I.pin p hp).1) (by rw[z];exact hb)) (abm _)
structure Turn(P:Program)(w:World)(K:Qqy)(tg:Expr)(J:It)(fp:List Addr)(it:Addr)(tn:Nat→Heap→Prop):Prop where
 mem:it∈fp
 obj:∀i h,tn i h→∀b∈fp,∃o,h.get? b=some o∧∀v,o.data≠.cell v
 keep:∀i h h',tn i h→(∀b∈fp,∀o,h.get? b=some o→h'.get? b=some o)→tn i h'
 item:∀(X:Cx),X.prog=P→X.w=w→X.K=K→X.calm=true→∀(i:Nat)(c_:Qqz)(s:Shared)(σ:St)(H:Hp)(E:Qqq),Inv X c_ σ H s→(∀b∈fp,uj X c_ H b)→tn i s.heap→J.go i H→
  wpAny (model P w) X.A (pyNext (.ref it)) (fun r s1=>∃u,r=some u∧
   wpAny (model P w) X.A (letOwnedTupleGo tg (.ref it) u) (fun _ s2=>∃x H',Inv X c_ σ H' s2∧RelV x u∧J.Jg i H x H'∧tn (i+1) s2.heap∧∀b∈fp,H' b=none) E s1) E s
 done:∀(X:Cx),X.prog=P→X.w=w→X.K=K→X.calm=true→∀(i:Nat)(c_:Qqz)(s:Shared)(σ:St)(H:Hp)(E:Qqq),Inv X c_ σ H s→(∀b∈fp,uj X c_ H b)→tn i s.heap→J.stop i H→
  wpAny (model P w) X.A (pyNext (.ref it)) (fun r s1=>r=none∧Inv X c_ σ H s1) E s
 self:∀(A:Around)(i:Nat)(s:Shared)(Q:Qqq)(E:Qqq),tn i s.heap→Q (.ref it) s→wpAny (model P w) A (pyIter (.ref it)) Q E s
abbrev TI:=St→Hp→(It→Hp→Prop)→Prop
def VJ(X:Cx)(c_:Qqz)(σ:St)(tg:Expr)(R:It→Hp→Prop)(UR:Value)(s2:Shared):Prop:=
 ∃(it:Addr)(fp:List Addr)(tn:Nat→Heap→Prop)(J:It)(H':Hp),UR=.ref it∧Inv X c_ σ H' s2∧Turn X.prog X.w X.K tg J fp it tn∧tn 0 s2.heap∧(∀b∈fp,uj X c_ H' b)∧R J H'
def PI(X:Cx)(tg iter:Expr)(wi:TI):Prop:=
 ∀(c_:Qqz)(s:Shared)(σ:St)(H:Hp)(R:It→Hp→Prop),Inv X c_ σ H s→wi σ H R→
  wpAny (model X.prog X.w) X.A (eval iter X.env) (fun v s1=>wpAny (model X.prog X.w) X.A (pyIter v) (VJ X c_ σ tg R) X.xe s1) X.xe s
theorem zj{M:Model}{A:Around}{E:Qqq}{s:Shared}{tg:Expr}{it:Addr}{u:Value}{o:Obj}{n:String}{vs:Array Value}{Q:Unit→Shared→Prop}(ho:s.heap.get? it=some o)(hc:o.cls=.type n)(hd:o.data=.fields vs)
  (hn:["enumerate","zip","dict_itemiterator","dict_reverseitemiterator","odict_iterator","itertools.zip_longest","itertools.pairwise"].contains n=false) (hQ:Q () s):wpAny M A (letOwnedTupleGo tg (.ref it) u) Q E s:=by
 unfold letOwnedTupleGo
 cases tg<;>first
  | exact aao hQ
  | (cases u<;>first
   | exact aao hQ
   | (
    refine V8 (wpAny_load ho ?_)
    rw[hc,hd]
    show wpAny M A (if(["enumerate","zip","dict_itemiterator","dict_reverseitemiterator","odict_iterator","itertools.zip_longest","itertools.pairwise"].contains n&&vs[0]? ==some (rawInt _))=true then _ else _) Q E s
    rw[aak (by intro h;rw[hn,Bool.false_and] at h;cases h)]
    exact aao hQ))
noncomputable def QI(K:Qqy)(a:Addr):It:=
 ⟨fun i H=>∃xs x,hE K H a xs∧xs[i]?=some x,fun i H x H'=>H'=H∧∀xs,hE K H a xs→xs[i]?=some x,fun i H=>∃xs,hE K H a xs∧xs.length≤i⟩
noncomputable def Nj(lo:Int)(n:Nat):It:=⟨fun i _=>i<n,fun i H x H'=>H'=H∧x=.int (lo+i),fun i _=>n≤i⟩
theorem HB{P:Program}{w:World}{K:Qqy}{tg:Expr}(a it:Addr):Turn P w K tg (QI K a) [it] it (fun i h=>h.IsListIter it a i) where
 mem:=by simp
 obj:=fun i h st b hb=>by
  have e:b=it:=by simpa using hb
  subst e
  obtain⟨o,e,c,d⟩:=st
  exact⟨o,e,fun v z=>by rw[d] at z;cases z⟩
 keep:=fun i h h' st k=>st.at fun o e=>k it (by simp) o e
 item:=by
  intro X hP hw hK hc i c_ s σ H E I hf st hg
  subst hP hw hK
  obtain⟨xs,x,hq,hx⟩:=hg
  obtain⟨ib,rv,p,hz⟩:=I.list hq
  obtain⟨u,hu,ru⟩:=rv.get hx
  obtain⟨f0,f1,f2,f3,f4,f5⟩:=hf it (by simp)
  refine wpAny_pyNext_list_item st p.isList (x:=u) (by simpa using hu) fun h' Bp sb=>?_
  have I1:Inv X c_ σ H {s with heap:=h'}:=I.turned (t':=s.toks) (fun b o hb e=>(sb.2 b hb).trans e) f0 f1 f3 f4 f5
  obtain⟨o,e,c,d⟩:=id Bp
  exact⟨u,rfl,zj (s:={s with heap:=h'}) e c d (by decide) ⟨x,H,I1,ru,⟨rfl,fun ys hy=>by rw[I.pK hy hq];exact hx⟩,Bp,fun b hb=>(hf b hb).1⟩⟩
 done:=by
  intro X hP hw hK hc i c_ s σ H E I hf st hg
  subst hP hw hK
  obtain⟨xs,hq,hx⟩:=hg
  obtain⟨ib,rv,p,hz⟩:=I.list hq
  obtain⟨f0,f1,f2,f3,f4,f5⟩:=hf it (by simp)
  have hl:=rv.length
  exact wpAny_pyNext_list_end (I.ok.hd hc) st p.isList (by simp;omega) fun h' eb=>⟨rfl,I.turned (t':=s.toks) (fun b o hb e=>eb b o hb e) f0 f1 f3 f4 f5⟩
 self:=fun _ _ _ _ _ st h=>wpAny_pyIter_listiter st h
theorem Fv{P:Program}{w:World}{K:PySem.W.Frag}{tg:Expr}(it:Addr)(lo:Int)(n:Nat):Turn P w K tg (Nj lo n) [it] it (fun i h=>IsRangeIter h it (lo+(i:Nat)*1) ((n:Int)-(i:Nat)) 1) where
 mem:=by simp
 obj:=fun i h st b hb=>by
  have e:b=it:=by simpa using hb
  subst e
  exact⟨_,st,fun v z=>by
   have z':Data.fields _=Data.cell v:=z
   cases z'⟩
 keep:=fun i h h' st k=>k it (by simp) _ st
 item:=by
  intro X hP hw hK hc i c_ s σ H E I hf st hg
  subst hP hw hK
  obtain⟨f0,f1,f2,f3,f4,f5⟩:=hf it (by simp)
  have W:=Walks.range (prog:=X.prog) (w:=X.w) (I.ok.hd hc) it lo 1 n
  refine W.item i s _ _ hg st fun v h' tk hv Bp kk=>?_
  obtain⟨t,rfl⟩:=hv
  have I1:Inv X c_ σ H {s with heap:=h',toks:=tk}:=I.turned (fun b o hb e=>kk b o (by simpa using hb) e) f0 f1 f3 f4 f5
  refine⟨_,rfl,zj (s:={s with heap:=h',toks:=tk}) (n:="range_iterator") Bp rfl rfl (by decide) ⟨.int (lo+i),H,I1,⟨t,?_⟩,⟨rfl,rfl⟩,Bp,fun b hb=>(hf b hb).1⟩⟩
  rw[Int.mul_one]
 done:=by
  intro X hP hw hK hc i c_ s σ H E I hf st hg
  subst hP hw hK
  obtain⟨f0,f1,f2,f3,f4,f5⟩:=hf it (by simp)
  exact wpAny_pyNext_range_end (I.ok.hd hc) st (by have:n≤i:=hg;omega) fun h' eb=>⟨rfl,I.turned (t':=s.toks) (fun b o hb e=>eb b o hb e) f0 f1 f3 f4 f5⟩
 self:=fun _ _ _ _ _ st h=>wpAny_pyIter_rangeiter st h
section
variable{X:Cx}{tg:Expr}
def Ry(K:Qqy)(tl:TE):TI:=fun σ H R=>tl σ H fun x H1=>∃a,x=.ref a∧(∃xs,hE K H1 a xs)∧R (QI K a) H1
theorem iq{l:Expr}{tl:TE}(hl:PE X l tl):PI X tg l (Ry X.K tl):=by
 intro c_ s σ H R I h
 refine i8 (hl c_ s σ H _ I h) fun v s1 iM=>?_
 obtain⟨x,H1,I1,r1,q1⟩:=iM
 obtain⟨a,e,⟨xs,hq⟩,q⟩:=q1
 subst e
 cases r1
 obtain⟨ib,rv,p,hz⟩:=I1.list hq
 refine wpAny_pyIter_list p.isList ?_
 refine⟨s1.heap.objs.size,[s1.heap.objs.size],_,_,H1,rfl,I1.kept (t':=s1.toks) fun b o e=>aag _ e,HB a _,⟨_,aaC _ rfl,rfl,rfl⟩,fun b hb=>?_,q⟩
 have e:b=s1.heap.objs.size:=by simpa using hb
 subst e
 exact I1.zi (ZA _) (I1.iP.fresh (ZA _))
theorem DZ{c_:Qqz}{σ:St}{H:Hp}{s:Shared}{R:It→Hp→Prop}{E:Qqq}{lo hi:Int}{t u v:Tok}{tk:Nat}(I:Inv X c_ σ H s)(h1:-(2 ^ 62)≤lo)(h2:lo<2 ^ 62)(h3:-(2 ^ 62)≤hi)(h4:hi<2 ^ 62)
  (q:R (Nj lo (hi-lo).toNat) H):wpAny (model X.prog X.w) X.A (pyIter (.ref s.heap.objs.size)) (VJ X c_ σ tg R) E {s with heap:=s.heap.push {cls:=.type "range",data:=.fields #[.int lo t,.int hi u,.int 1 v]},toks:=tk}:=by
 refine wpAny_pyIter_range (IsRange.new ..) (small_one h1 h2 h3 h4) ?_
 have I1:Inv X c_ σ H {s with heap:=s.heap.push {cls:=.type "range",data:=.fields #[.int lo t,.int hi u,.int 1 v]},toks:=tk}:=I.kept fun b o e=>aag _ e
 refine⟨(s.heap.push {cls:=.type "range",data:=.fields #[.int lo t,.int hi u,.int 1 v]}).objs.size,[(s.heap.push {cls:=.type "range",data:=.fields #[.int lo t,.int hi u,.int 1 v]}).objs.size],_,_,H,rfl,
  I1.kept (t':=tk) fun b o e=>aag _ e,Fv _ lo (hi-lo).toNat,?_,fun b hb=>?_,q⟩
 ·have e1:lo+((0:Nat):Int)*1=lo:=by simp
  have e2:(((hi-lo).toNat:Nat):Int)-((0:Nat):Int)=Builtin.Range.rangeSize lo hi 1:=by rw[rangeSize_one];split<;>omega
  show IsRangeIter _ _ (lo+((0:Nat):Int)*1) ((((hi-lo).toNat:Nat):Int)-((0:Nat):Int)) 1
  rw[e1,e2]
  exact aaC _ rfl
 ·have e:b=(s.heap.push {cls:=.type "range",data:=.fields #[.int lo t,.int hi u,.int 1 v]}).objs.size:=by simpa using hb
  subst e
  exact I1.zi (ZA _) (I1.iP.fresh (ZA _))
def Rz(ta:TA):TI:=fun σ H R=>ta σ H fun vs H1=>∃j:Int,vs=[.int j]∧-(2 ^ 62)≤j∧j<2 ^ 62∧R (Nj 0 j.toNat) H1
def RA(ta:TA):TI:=fun σ H R=>ta σ H fun vs H1=>∃i j:Int,vs=[.int i,.int j]∧(-(2 ^ 62)≤i∧i<2 ^ 62∧-(2 ^ 62)≤j∧j<2 ^ 62)∧R (Nj i (j-i).toNat) H1
theorem kK{a:Expr}{ta:TA}{p pos:Pos}(hg:Gl X "range")(hm:X.mg "range"=none)(ha:PA X [a] ta)(hs:starEach [a] X.env=[(false,eval a X.env)]:=by rfl):PI X tg (.Call (.Name "range" p) [a] [] pos) (Rz ta):=by
 intro c_ s σ H R I h
 refine Call_ (pe I hg hm boot_range (aaW (i8 (ha pos c_ s σ H _ I h) fun us s1 iM=>?_) hs rfl))
 obtain⟨vs,H1,I1,r1,q1⟩:=iM
 obtain⟨j,e,q1,q2,q⟩:=q1
 subst e
 cases r1 with
 | cons r rr=>
  cases rr
  obtain⟨t,rfl⟩:=r
  exact call_range_1 (DZ I1 (by omega) (by omega) q1 q2 (by simpa using q))
theorem wA{a b:Expr}{ta:TA}{p pos:Pos}(hg:Gl X "range")(hm:X.mg "range"=none)(ha:PA X [a,b] ta)(hs:starEach [a,b] X.env=[(false,eval a X.env),(false,eval b X.env)]:=by rfl)(IU:starEach [b] X.env=[(false,eval b X.env)]:=by rfl) :
  PI X tg (.Call (.Name "range" p) [a,b] [] pos) (RA ta):=by
 intro c_ s σ H R I h
 refine Call_ (pe I hg hm boot_range (aaW (i8 (ha pos c_ s σ H _ I h) fun us s1 iM=>?_) (by rw[hs,IU]) (by rw[IU];rfl)))
 obtain⟨vs,H1,I1,r1,q1⟩:=iM
 obtain⟨i,j,e,⟨q1,q2,q3,q4⟩,q⟩:=q1
 subst e
 cases r1 with
 | cons r rr=>
  cases rr with
  | cons r' rr=>
   cases rr
   obtain⟨t,rfl⟩:=r
   obtain⟨t',rfl⟩:=r'
   exact call_range_2 (DZ I1 q1 q2 q3 q4 q)
def Ol(wi:TI)(g:TG)(tb:TS):TS:=fun D σ H=>wi σ H fun J H1=>∃W:Nat→Nat→St→Hp→Prop,(∃m,W 0 m σ H1)∧∀i m σ H,W i m σ H→
 (J.stop i H∧D.nx σ H)∨(J.go i H∧∃N:St→Hp→Prop,(∀σ' H',N σ' H'→∃m',m'<m∧W (i+1) m' σ' H')∧∀x H',J.Jg i H x H'→g x σ H' fun σ2 H2=>tb {D with nx:=N,ct:=N,bk:=D.nx} σ2 H2)
noncomputable def zl(fp:List Addr)(h:Heap):Qqz:=fp.filterMap fun b=>(h.get? b).map fun o=>(b,o)
theorem qh{fp:List Addr}{h:Heap}{b:Addr}{o:Obj}(hb:b∈fp)(e:h.get? b=some o):(b,o)∈zl fp h:=abM.mpr ⟨b,hb,by rw[e];rfl⟩
theorem HC{fp:List Addr}{h:Heap}{p:Addr×Obj}(hp:p∈zl fp h):p.1∈fp∧h.get? p.1=some p.2:=by
 obtain⟨b,hb,e⟩:=abM.mp hp
 cases q:h.get? b with
 | none=>rw[q] at e;cases e
 | some o=>
  rw[q] at e
  have e':(b,o)=p:=aau e
  subst e'
  exact⟨hb,q⟩
theorem Inv.pinned{c_:Qqz}{σ:St}{H:Hp}{s:Shared}{fp:List Addr}(I:Inv X c_ σ H s)(hf:∀b∈fp,uj X c_ H b)(ho:∀b∈fp,∃o,s.heap.get? b=some o∧∀v,o.data≠.cell v):Inv X (c_++zl fp s.heap) σ H s:=
 I.yX fun p hp=>(W9.mp hp).elim (fun z=>I.pin p (aaG _ z)) fun z=>by
  obtain⟨hb,e⟩:=HC z
  obtain⟨f0,f1,f2,_⟩:=hf p.1 hb
  obtain⟨o,e',d⟩:=ho p.1 hb
  rw[e] at e';cases e'
  exact⟨e,f0,f1,f2,d⟩
theorem Inv.uX{c_ pl:Qqz}{σ:St}{H:Hp}{s:Shared}(I:Inv X (c_++pl) σ H s):Inv X c_ σ H s:=I.yX fun p hp=>I.pin p (aaG _ (aal _ hp))
theorem iH{iter:Expr}{body:List Stmt}{wi:TI}{g:TG}{tb:TS}{pos:Pos}(hp:PassesOwn (model X.prog X.w) X.A X.env X.xe)(hc:X.calm=true)(hi:PI X tg iter wi)(hg:PG X tg g)(hb:Fn X body tb)
  (hs:∀x,foldedSetIterable iter X.env x=pure x:=by intro _;rfl):PS X (.For tg iter body [] pos) (Ol wi g tb):=by
 intro c_ s σ H D I h
 refine wpAny_For (i8 (hi c_ s σ H _ I h) fun v s1 h1=>i8 h1 fun UR s2 h2=>?_) hs
 obtain⟨it,fp,tn,J,H2,e,I2,T,Bq,f2,W,⟨m0,w0⟩,turn⟩:=h2
 subst e
 have PY:∀{H':Hp},(∀b∈fp,H' b=none)→∀b∈fp,uj X c_ H' b:=fun hn b hb=>⟨hn b hb,(f2 b hb).2⟩
 refine codeAny_forLoop_any (fun n s'=>∃i σ' H',Inv X c_ σ' H' s'∧tn i s'.heap∧(∀b∈fp,H' b=none)∧W i n σ' H') ?_ m0 ⟨0,σ,H2,I2,Bq,fun b hb=>(f2 b hb).1,w0⟩
 rintro n s3 ⟨i,σ3,H3,I3,wx,SN,w3⟩
 rcases turn i n σ3 H3 w3 with⟨stop,qn⟩|⟨go,N,hN,step⟩
 ·refine abS hp (i8 (T.done X rfl rfl rfl hc i c_ s3 σ3 H3 X.xe I3 (PY SN) wx stop) fun r s4 iM=>?_)
  obtain⟨hr,I4⟩:=iM
  subst hr
  exact wpAny_execs_nil ⟨σ3,H3,I4,qn⟩
 ·refine abS hp (i8 (T.item X rfl rfl rfl hc i c_ s3 σ3 H3 X.xe I3 (PY SN) wx go) fun r s4 iM=>?_)
  obtain⟨u,hr,h4⟩:=iM
  subst hr
  refine abS hp (i8 h4 fun _ s5 iM=>?_)
  obtain⟨x,H5,I5,r5,y5,PZ,Ww⟩:=iM
  have Wx:=I5.pinned (PY Ww) (T.obj _ _ PZ)
  refine abS hp (i8 (hg _ s5 σ3 H5 x u _ Wx r5 (step x H5 y5)) fun _ s6 iM=>?_)
  obtain⟨σ6,H6,I6,q6⟩:=iM
  refine abS hp (i8 (hb _ s6 σ6 H6 _ I6 q6) fun f s7 q7=>?_)
  have again:∀{σ7:St} {H7:Hp},Inv X (c_++zl fp s5.heap) σ7 H7 s7→N σ7 H7→∃m,m<n∧∃i σ' H',Inv X c_ σ' H' s7∧tn i s7.heap∧(∀b∈fp,H' b=none)∧W i m σ' H':=fun{σ7 H7} I7 n7=>by
   obtain⟨m',hm,w7⟩:=hN σ7 H7 n7
   refine⟨m',hm,i+1,σ7,H7,I7.uX,T.keep _ _ _ PZ fun b hb o e=>(I7.pin (b,o) (aaG _ (aaG _ (qh hb e)))).1,fun b hb=>?_,w7⟩
   obtain⟨o,e,d⟩:=T.obj _ _ PZ b hb
   exact(I7.pin (b,o) (aaG _ (aaG _ (qh hb e)))).2.1
  cases f with
  | next=>obtain⟨σ7,H7,I7,n7⟩:=q7;exact again I7 n7
  | cont=>obtain⟨σ7,H7,I7,n7⟩:=q7;exact again I7 n7
  | brk=>obtain⟨σ7,H7,I7,q7⟩:=q7;exact⟨σ7,H7,I7.uX,q7⟩
  | ret v=>obtain⟨x7,σ7,H7,I7,r7,q7⟩:=q7;exact⟨x7,σ7,H7,I7.uX,r7,q7⟩
end
theorem i0{K:PySem.W.Frag}{a:Addr}{xs:List V}{g:TG}{tb:TS}{D:Ends}{σ:St}{H:Hp}(Pv:Nat→St→Hp→Prop)(h0:Pv 0 σ H)(hl:∀i σ H,i≤xs.length→Pv i σ H→hE K H a xs)
  (hs:∀i x σ H,xs[i]?=some x→Pv i σ H→g x σ H fun σ2 H2=>tb {D with nx:=Pv (i+1),ct:=Pv (i+1),bk:=D.nx} σ2 H2) (hd:∀σ H,Pv xs.length σ H→D.nx σ H) :
  ∃W:Nat→Nat→St→Hp→Prop,(∃m,W 0 m σ H)∧∀i m σ H,W i m σ H→
   ((QI K a).stop i H∧D.nx σ H)∨((QI K a).go i H∧∃N:St→Hp→Prop,(∀σ' H',N σ' H'→∃m',m'<m∧W (i+1) m' σ' H')∧∀x H',(QI K a).Jg i H x H'→g x σ H' fun σ2 H2=>tb {D with nx:=N,ct:=N,bk:=D.nx} σ2 H2):=by
 refine⟨fun i m σ H=>m=xs.length-i∧i≤xs.length∧Pv i σ H,⟨xs.length,by simp,aaI _,h0⟩,?_⟩
 rintro i m σ H ⟨rfl,hi,p⟩
 have q:=hl i σ H hi p
 by_cases kU:i<xs.length
 ·refine .inr ⟨⟨xs,xs[i],q,by simp[kU]⟩,Pv (i+1),fun σ' H' p'=>⟨xs.length-(i+1),by omega,rfl,kU,p'⟩,fun x H' y=>?_⟩
  obtain⟨e,y⟩:=y
  subst e
  exact hs i x σ _ (y xs q) p
 ·have e:i=xs.length:=by omega
  subst e
  exact .inl ⟨⟨xs,q,ZA _⟩,hd σ H p⟩
theorem mi{lo:Int}{n:Nat}{g:TG}{tb:TS}{D:Ends}{σ:St}{H:Hp}(Pv:Nat→St→Hp→Prop)(h0:Pv 0 σ H)
  (hs:∀i σ H,i<n→Pv i σ H→g (.int (lo+i)) σ H fun σ2 H2=>tb {D with nx:=Pv (i+1),ct:=Pv (i+1),bk:=D.nx} σ2 H2) (hd:∀σ H,Pv n σ H→D.nx σ H) :
  ∃W:Nat→Nat→St→Hp→Prop,(∃m,W 0 m σ H)∧∀i m σ H,W i m σ H→
   ((Nj lo n).stop i H∧D.nx σ H)∨((Nj lo n).go i H∧∃N:St→Hp→Prop,(∀σ' H',N σ' H'→∃m',m'<m∧W (i+1) m' σ' H')∧∀x H',(Nj lo n).Jg i H x H'→g x σ H' fun σ2 H2=>tb {D with nx:=N,ct:=N,bk:=D.nx} σ2 H2):=by
 refine⟨fun i m σ H=>m=n-i∧i≤n∧Pv i σ H,⟨n,by simp,aaI _,h0⟩,?_⟩
 rintro i m σ H ⟨rfl,hi,p⟩
 by_cases kU:i<n
 ·refine .inr ⟨kU,Pv (i+1),fun σ' H' p'=>⟨n-(i+1),by omega,rfl,kU,p'⟩,fun x H' y=>?_⟩
  obtain⟨e,y⟩:=y
  subst e y
  exact hs i σ _ kU p
 ·have e:i=n:=by omega
  subst e
  exact .inl ⟨ZA _,hd σ H p⟩
abbrev R2:=V→V→Hp→VK→Prop
def yG(X:Cx)(f:Value→Value→Sem Value)(r:R2):Prop:=
 ∀(c_:Qqz)(s:Shared)(σ:St)(H:Hp)(x y:V)(v u:Value)(Q:VK),Inv X c_ σ H s→RelV x v→RelV y u→r x y H Q→
  wpAny (model X.prog X.w) X.A (f v u) (EP X c_ σ Q) X.xe s
def VL(X:Cx)(f:Value→Sem Value)(r:V→Hp→VK→Prop):Prop:=
 ∀(c_:Qqz)(s:Shared)(σ:St)(H:Hp)(x:V)(v:Value)(Q:VK),Inv X c_ σ H s→RelV x v→r x H Q→
  wpAny (model X.prog X.w) X.A (f v) (EP X c_ σ Q) X.xe s
def xC(X:Cx)(f:Value)(r:List V→Hp→VK→Prop):Prop:=
 ∀(c_:Qqz)(s:Shared)(σ:St)(H:Hp)(xs:List V)(us:List Value)(Q:VK),Inv X c_ σ H s→Vals xs us→r xs H Q→
  wpAny (model X.prog X.w) X.A (call f us) (EP X c_ σ Q) X.xe s
def VM(X:Cx)(r:V→Hp→(Bool→Hp→Prop)→Prop):Prop:=
 ∀(c_:Qqz)(s:Shared)(σ:St)(H:Hp)(x:V)(v:Value)(Q:Bool→Hp→Prop),Inv X c_ σ H s→RelV x v→r x H Q→
  wpAny (model X.prog X.w) X.A (truthy v) (TP X c_ σ Q) X.xe s
def RB(r:R2)(ta tb:TE):TE:=fun σ H Q=>ta σ H fun x H1=>tb σ H1 fun y H2=>r x y H2 Q
def tUn(r:V→Hp→VK→Prop)(ta:TE):TE:=fun σ H Q=>ta σ H fun x H1=>r x H1 Q
def rI(C:Int→Int→Prop)(g:Int→Int→V):R2:=fun x y H Q=>∃i j,x=.int i∧y=.int j∧C i j∧Q (g i j) H
def Nk(g:Int→Int→V):R2:=fun x y H Q=>∃i j,x=.int i∧y=.int j∧Q (g i j) H
def rU(g:Int→V):V→Hp→VK→Prop:=fun x H Q=>∃i,x=.int i∧Q (g i) H
section
variable{X:Cx}{a b c:Expr}{ta tb tc:TE}{pos:Pos}
theorem Om(ha:PE X a ta)(hb:PE X b tb){c_:Qqz}{s:Shared}{σ:St}{H:Hp}{R:V→V→Hp→Prop}(I:Inv X c_ σ H s)
  (h:ta σ H fun x H1=>tb σ H1 fun y H2=>R x y H2) {Q:Qqq} {f:Value→Value→Sem Value}
  (hf:∀v u s2 x y H2,Inv X c_ σ H2 s2→RelV x v→RelV y u→R x y H2→wpAny (model X.prog X.w) X.A (f v u) Q X.xe s2) :
  wpAny (model X.prog X.w) X.A (eval a X.env) (fun v s₁=>wpAny (model X.prog X.w) X.A (eval b X.env) (fun u s₂=>wpAny (model X.prog X.w) X.A (f v u) Q X.xe s₂) X.xe s₁) X.xe s:=by
 refine i8 (ha c_ s σ H _ I h) fun v s1 iM=>?_
 obtain⟨x,H1,I1,r1,q1⟩:=iM
 refine i8 (hb c_ s1 σ H1 _ I1 q1) fun u s2 iM=>?_
 obtain⟨y,H2,I2,r2,q2⟩:=iM
 exact hf v u s2 x y H2 I2 r1 r2 q2
theorem gs{op:Operator}{r:R2}(ho:yG X (binaryOp op) r)(ha:PE X a ta)(hb:PE X b tb):PE X (.BinOp a op b pos) (RB r ta tb):=by
 intro c_ s σ H Q I h
 exact wpAny_BinOp (Om ha hb I h fun v u s2 x y H2 I2 rx ry q=>ho c_ s2 σ H2 x y v u Q I2 rx ry q)
theorem xD{op:UnaryOp}{r:V→Hp→VK→Prop}(ho:VL X (unaryOp op) r)(ha:PE X a ta):PE X (.UnaryOp op a pos) (tUn r ta):=by
 intro c_ s σ H Q I h
 exact UnaryOp_ (i8 (ha c_ s σ H _ I h) fun v s1 ⟨x,H1,I1,r1,q1⟩=>ho c_ s1 σ H1 x v Q I1 r1 q1)
theorem VN{f:Value→Value→Sem Value}{C:Int→Int→Prop}{g:Int→Int→Int}
  (rule:∀(i j:Int)(t u:Tok)(s:Shared)(Q:Qqq)(E:Qqq),C i j→Q (.int (g i j) s.toks) {s with toks:=s.toks+1}→wpAny (model X.prog X.w) X.A (f (.int i t) (.int j u)) Q E s) :
  yG X f (rI C fun i j=>.int (g i j)):=by
 intro c_ s σ H x y v u Q I rx ry h
 obtain⟨i,j,rfl,rfl,hc,q⟩:=h
 obtain⟨t,rfl⟩:=rx
 obtain⟨t',rfl⟩:=ry
 exact rule i j t t' s _ _ hc ⟨.int (g i j),H,I.tok _,⟨_,rfl⟩,q⟩
theorem RC{f:Value→Value→Sem Value}{g:Int→Int→Int}
  (rule:∀(i j:Int)(t u:Tok)(s:Shared)(Q:Qqq)(E:Qqq),Q (.int (g i j) s.toks) {s with toks:=s.toks+1}→wpAny (model X.prog X.w) X.A (f (.int i t) (.int j u)) Q E s) :
  yG X f (Nk fun i j=>.int (g i j)):=by
 intro c_ s σ H x y v u Q I rx ry h
 obtain⟨i,j,rfl,rfl,q⟩:=h
 obtain⟨t,rfl⟩:=rx
 obtain⟨t',rfl⟩:=ry
 exact rule i j t t' s _ _ ⟨.int (g i j),H,I.tok _,⟨_,rfl⟩,q⟩
theorem LO{f:Value→Value→Sem Value}{g:Int→Int→Bool}
  (rule:∀(i j:Int)(t u:Tok)(s:Shared)(Q:Qqq)(E:Qqq),Q (.bool (g i j)) s→wpAny (model X.prog X.w) X.A (f (.int i t) (.int j u)) Q E s) :
  yG X f (Nk fun i j=>.bl (g i j)):=by
 intro c_ s σ H x y v u Q I rx ry h
 obtain⟨i,j,rfl,rfl,q⟩:=h
 obtain⟨t,rfl⟩:=rx
 obtain⟨t',rfl⟩:=ry
 exact rule i j t t' s _ _ ⟨.bl (g i j),H,I,rfl,q⟩
def VO(i j:Int):Prop:=0<j∧j<1073741824
def Oo(i j:Int):Prop:=(-(2 ^ 64)<i∧i<2 ^ 64)∨(-(2 ^ 64)<j∧j<2 ^ 64)
theorem Oo.ok{i j:Int}(h:Oo i j):IntMulOk i j:=by
 rcases h with⟨h1,h2⟩|⟨h1,h2⟩
 ·exact .of_left (intBits_le_64 h1 h2)
 ·exact .of_right (intBits_le_64 h1 h2)
theorem iI:yG X (binaryOp .Add) (Nk fun i j=>.int (i+j)):=RC fun _ _ _ _ _ _ _ q=>add_int q
theorem pf:yG X (binaryOp .Sub) (Nk fun i j=>.int (i-j)):=RC fun _ _ _ _ _ _ _ q=>sub_int q
theorem rA:yG X (binaryOp .Mult) (rI Oo fun i j=>.int (i*j)):=VN fun _ _ _ _ _ _ _ hc q=>mul_int q hc.ok
theorem jB:yG X (binaryOp .FloorDiv) (rI VO fun i j=>.int (i/j)):=VN fun i j _ _ _ _ _ hc q=>by
 have h1:(0:Int)<j:=hc.1
 have h2:j<1073741824:=hc.2
 exact floordiv_int (by omega) (by rw[Int.fdiv_eq_ediv_of_nonneg i (by omega)];exact q) (.inl (PyProof.noPylong_small (by omega)))
theorem iD:yG X (binaryOp .Mod) (rI (fun _ j=>0<j) fun i j=>.int (i%j)):=VN fun i j _ _ _ _ _ hc q=>by
 have h1:(0:Int)<j:=hc
 exact mod_int' (by omega) (by rw[Int.fmod_eq_emod_of_nonneg i (by omega)];exact q)
theorem unI{f:Value→Sem Value}{g:Int→Int}
  (rule:∀(i:Int)(t:Tok)(s:Shared)(Q:Qqq)(E:Qqq),Q (.int (g i) s.toks) {s with toks:=s.toks+1}→wpAny (model X.prog X.w) X.A (f (.int i t)) Q E s) :
  VL X f (rU fun i=>.int (g i)):=by
 intro c_ s σ H x v Q I rx h
 obtain⟨i,rfl,q⟩:=h
 obtain⟨t,rfl⟩:=rx
 exact rule i t s _ _ ⟨.int (g i),H,I.tok _,⟨_,rfl⟩,q⟩
theorem rB:VL X (unaryOp .USub) (rU fun i=>.int (-i)):=unI fun _ _ _ _ _ q=>neg_int q
end
noncomputable def Oq:V→V→Bool
 | .jo,.jo=>true|.jo,.int _=>true|.int _,.jo=>true|.jo,.bl _=>true|.bl _,.jo=>true|.jo,.str _=>true|.str _,.jo=>true
 | .int _,.int _=>true|.bl _,.bl _=>true|.str _,.str _=>true|.Fu _,.Fu _=>true
 | .int _,.str _=>true|.str _,.int _=>true|.bl _,.str _=>true|.str _,.bl _=>true
 | _,_=>false
noncomputable def rEq:R2:=fun x y H Q=>Oq x y=true∧Q (.bl (decide (x=y))) H
noncomputable def rNe:R2:=fun x y H Q=>Oq x y=true∧Q (.bl (!decide (x=y))) H
theorem GJ{i j:Int}:decide (V.int i=V.int j)=(i ==j):=by
 rw[abG]
 simp
theorem Jh{i j:Bool}:decide (V.bl i=V.bl j)=(i ==j):=by
 rw[abG]
 simp
theorem GK{i j:Str}:decide (V.str i=V.str j)=(i ==j):=by
 rw[abG]
 simp
theorem GL{i j:Array UInt8}:decide (V.Fu i=V.Fu j)=(i.toList ==j.toList):=by
 rw[abG]
 cases i
 cases j
 simp
section
variable{X:Cx}{a b c:Expr}{ta tb tc:TE}{pos:Pos}
theorem iS{c_:Qqz}{σ:St}{H:Hp}{s:Shared}{Q:VK}{k k':Bool}(I:Inv X c_ σ H s)(q:Q (.bl k) H)(e:k=k'):EP X c_ σ Q (.bool k') s:=by
 subst e
 exact⟨.bl k,H,I,rfl,q⟩
theorem mH:yG X (compareOp .Eq) rEq:=by
 intro c_ s σ H x y v u Q I rx ry h
 obtain⟨hs,q⟩:=h
 cases x with
 | jo=>
  cases rx
  cases y with
  | jo=>cases ry;exact PySem.EqNone.eq_none_none (iS I q (by simp))
  | bl j=>cases ry;exact PySem.EqNone.eq_none_bool (iS I q (by simp))
  | int j=>obtain⟨t',rfl⟩:=ry;exact PySem.EqNone.eq_none_int (iS I q (by simp))
  | str j=>obtain⟨t',rfl⟩:=ry;exact PySem.EqNone.eq_none_str (iS I q (by simp))
  | _=>exact absurd (show false=true from hs) aah
 | bl i=>
  cases rx
  cases y with
  | jo=>cases ry;exact PySem.EqNone.eq_bool_none (iS I q (by simp))
  | bl j=>cases ry;exact eq_bool (iS I q Jh)
  | str j=>obtain⟨t',rfl⟩:=ry;exact PySem.EqMixed.eq_bool_str (iS I q (by simp))
  | _=>exact absurd (show false=true from hs) aah
 | int i=>
  obtain⟨t,rfl⟩:=rx
  cases y with
  | jo=>cases ry;exact PySem.EqNone.eq_int_none (iS I q (by simp))
  | int j=>obtain⟨t',rfl⟩:=ry;exact eq_int (iS I q GJ)
  | str j=>obtain⟨t',rfl⟩:=ry;exact PySem.EqMixed.eq_int_str (iS I q (by simp))
  | _=>exact absurd (show false=true from hs) aah
 | str i=>
  obtain⟨t,rfl⟩:=rx
  cases y with
  | jo=>cases ry;exact PySem.EqNone.eq_str_none (iS I q (by simp))
  | bl j=>cases ry;exact PySem.EqMixed.eq_str_bool (iS I q (by simp))
  | int j=>obtain⟨t',rfl⟩:=ry;exact PySem.EqMixed.eq_str_int (iS I q (by simp))
  | str j=>obtain⟨t',rfl⟩:=ry;exact eq_str (iS I q GK)
  | _=>exact absurd (show false=true from hs) aah
 | Fu i=>
  obtain⟨t,rfl⟩:=rx
  cases y with
  | Fu j=>obtain⟨t',rfl⟩:=ry;exact W.eq_bytes (iS I q GL)
  | _=>exact absurd (show false=true from hs) aah
 | _=>cases y<;>exact absurd (show false=true from hs) aah
theorem GN:yG X (compareOp .NotEq) rNe:=by
 intro c_ s σ H x y v u Q I rx ry h
 obtain⟨hs,q⟩:=h
 cases x with
 | jo=>
  cases rx
  cases y with
  | jo=>cases ry;exact PySem.EqNone.ne_none_none (iS I q (by simp))
  | bl j=>cases ry;exact PySem.EqNone.ne_none_bool (iS I q (by simp))
  | int j=>obtain⟨t',rfl⟩:=ry;exact PySem.EqNone.ne_none_int (iS I q (by simp))
  | str j=>obtain⟨t',rfl⟩:=ry;exact PySem.EqNone.ne_none_str (iS I q (by simp))
  | _=>exact absurd (show false=true from hs) aah
 | bl i=>
  cases rx
  cases y with
  | jo=>cases ry;exact PySem.EqNone.ne_bool_none (iS I q (by simp))
  | bl j=>cases ry;exact ne_bool (iS I q (aa4 not Jh))
  | str j=>obtain⟨t',rfl⟩:=ry;exact PySem.EqMixed.ne_bool_str (iS I q (by simp))
  | _=>exact absurd (show false=true from hs) aah
 | int i=>
  obtain⟨t,rfl⟩:=rx
  cases y with
  | jo=>cases ry;exact PySem.EqNone.ne_int_none (iS I q (by simp))
  | int j=>obtain⟨t',rfl⟩:=ry;exact ne_int (iS I q (aa4 not GJ))
  | str j=>obtain⟨t',rfl⟩:=ry;exact PySem.EqMixed.ne_int_str (iS I q (by simp))
  | _=>exact absurd (show false=true from hs) aah
 | str i=>
  obtain⟨t,rfl⟩:=rx
  cases y with
  | jo=>cases ry;exact PySem.EqNone.ne_str_none (iS I q (by simp))
  | bl j=>cases ry;exact PySem.EqMixed.ne_str_bool (iS I q (by simp))
  | int j=>obtain⟨t',rfl⟩:=ry;exact PySem.EqMixed.ne_str_int (iS I q (by simp))
  | str j=>obtain⟨t',rfl⟩:=ry;exact ne_str (iS I q (aa4 not GK))
  | _=>exact absurd (show false=true from hs) aah
 | Fu i=>
  obtain⟨t,rfl⟩:=rx
  cases y with
  | Fu j=>obtain⟨t',rfl⟩:=ry;exact W.ne_bytes (iS I q (aa4 not GL))
  | _=>exact absurd (show false=true from hs) aah
 | _=>cases y<;>exact absurd (show false=true from hs) aah
theorem GO:yG X (compareOp .Lt) (Nk fun i j=>.bl (decide (i<j))):=LO fun _ _ _ _ _ _ _ q=>lt_int q
theorem Ji:yG X (compareOp .LtE) (Nk fun i j=>.bl (decide (i≤j))):=LO fun _ _ _ _ _ _ _ q=>le_int q
theorem D1:yG X (compareOp .Gt) (Nk fun i j=>.bl (decide (j<i))):=LO fun _ _ _ _ _ _ _ q=>gt_int q
theorem RD:yG X (compareOp .GtE) (Nk fun i j=>.bl (decide (j≤i))):=LO fun _ _ _ _ _ _ _ q=>ge_int q
theorem Cp:yG X (compareOp .NotIn) (fun x y H Q=>∃i j,x=.str i∧y=.str j∧Q (.bl (!(!(Builtin.Str.occurrences j i 0 j.length 1).isEmpty))) H):=by
 intro c_ s σ H x y v u Q I rx ry h
 obtain⟨i,j,rfl,rfl,q⟩:=h
 obtain⟨t,rfl⟩:=rx
 obtain⟨t',rfl⟩:=ry
 exact notIn_str (iS I q rfl)
theorem iE(b:Expr){op:CmpOp}(h:op≠.In:=by decide)(h2:op≠.NotIn:=by decide):behindInMarks op b=false:=by
 have e1:(op ==CmpOp.In)=false:=by cases op<;>first|rfl|exact absurd rfl h
 have e2:(op ==CmpOp.NotIn)=false:=by cases op<;>first|rfl|exact absurd rfl h2
 cases b<;>simp[behindInMarks,e1,e2]
theorem LP{op:CmpOp}{r:R2}(ho:yG X (compareOp op) r)(ha:PE X a ta)(hb:PE X b tb)(hm:behindInMarks op b=false):PE X (.Compare a [op] [b] pos) (RB r ta tb):=by
 intro c_ s σ H Q I h
 exact wpAny_Compare1 (Om ha hb I h fun v u s2 x y H2 I2 rx ry q=>ho c_ s2 σ H2 x y v u Q I2 rx ry q) hm
def Nl(t:TE):TT:=fun σ H Q=>t σ H fun x H'=>∃k,x=.bl k∧Q k H'
theorem ik{op:CmpOp}{r:R2}(ho:yG X (compareOp op) r)(ha:PE X a ta)(hb:PE X b tb)(hm:behindInMarks op b=false):PT X (.Compare a [op] [b] pos) (Nl (RB r ta tb)):=by
 intro c_ s σ H Q I h
 refine wpAny_isTrue_Compare1 (i8 (ha c_ s σ H _ I h) fun v s1 ⟨x,H1,I1,r1,q1⟩=>i8 (hb c_ s1 σ H1 _ I1 q1) fun u s2 ⟨y,H2,I2,r2,q2⟩=>
  i8 (ho c_ s2 σ H2 x y v u _ I2 r1 r2 q2) fun c s3 ⟨z,H3,I3,r3,k,e,q3⟩=>?_) hm
 subst e
 cases r3
 exact abu ⟨H3,I3,q3⟩
def Ot(r r':R2)(ta tb tc:TE):TE:=fun σ H Q=>ta σ H fun x H1=>tb σ H1 fun y H2=>r x y H2 fun z H3=>∃k,z=.bl k∧
 (if k=true then tc σ H3 fun w' H4=>r' y w' H4 Q else Q (.bl false) H3)
theorem D5{op Wy:CmpOp}{r r':R2}(ho:yG X (compareOp op) r)(qJ:yG X (compareOp Wy) r')(ha:PE X a ta)(hb:PE X b tb)(hc:PE X c tc)
  (hm:lastMarks [op,Wy] [b,c]=false:=by with_unfolding_all rfl):PT X (.Compare a [op,Wy] [b,c] pos) (Nl (Ot r r' ta tb tc)):=by
 intro c_ s σ H Q I h
 refine isTrue_chain (i8 (ha c_ s σ H _ I h) fun v s1 ⟨x,H1,I1,r1,q1⟩=>test_link (i8 (hb c_ s1 σ H1 _ I1 q1) fun u s2 ⟨y,H2,I2,r2,q2⟩=>
  i8 (ho c_ s2 σ H2 x y v u _ I2 r1 r2 q2) fun d s3 ⟨z,H3,I3,r3,k,e,q3⟩=>?_)) hm
 subst e
 cases r3
 refine abu ?_
 cases k with
 | false=>
  obtain⟨k',e',q'⟩:=q3
  cases e'
  exact ite_ff ⟨H3,I3,q'⟩
 | true=>
  refine ite_tt (test_last (i8 (hc c_ s3 σ H3 _ I3 q3) fun w' s4 iM=>?_))
  obtain⟨z',H4,I4,r4,q4⟩:=iM
  refine i8 (qJ c_ s4 σ H4 y z' u w' _ I4 r2 r4 q4) fun d' s5 IG=>?_
  obtain⟨z2,H5,I5,r5,k2,e2,q5⟩:=IG
  subst e2
  cases r5
  exact abu ⟨H5,I5,q5⟩
def RE(K:Qqy)(x:V)(H:Hp)(k:Bool):Prop:=
 match x with
 | .jo=>k=false
 | .bl b=>k=b
 | .int i=>k=(i != 0)
 | .str y=>y.length≤sizeLine∧k=((y.length:Int) != 0)
 | .Fu y=>y.size≤sizeLine∧k=((y.size:Int) != 0)
 | .ref p=>(∃xs,hE K H p xs∧k=!xs.isEmpty)∨(∃xs,rn K H p xs∧k=!xs.isEmpty)∨∃kvs,H p=some (.dK kvs)∧k=!kvs.isEmpty
 | _=>False
theorem Fw{κ:Type}{kvs:List (κ×V)}{vs:List (κ×Value)}(r:KV kvs vs):(!vs.isEmpty)=!kvs.isEmpty:=by
 cases r<;>rfl
theorem zo{xs:List V}{ib:List Value}(r:Vals xs ib):(!ib.toArray.isEmpty)=!xs.isEmpty:=by
 cases r<;>simp
theorem uk:(sizeLine:Nat)<2 ^ 63:=by rw[sizeLine_eq];decide
theorem Ou:VM X (fun x H Q=>∃k,RE X.K x H k∧Q k H):=by
 intro c_ s σ H x v Q I rx h
 obtain⟨k,e,q⟩:=h
 have hl:=uk
 have hs:sizeLine=16777216:=sizeLine_eq
 cases x with
 | jo=>
  cases rx
  have e':k=false:=e
  subst e'
  exact truthy_none ⟨H,I,q⟩
 | bl b=>
  cases rx
  have e':k=b:=e
  subst e'
  exact abu ⟨H,I,q⟩
 | int i=>
  obtain⟨t,rfl⟩:=rx
  have e':k=(i != 0):=e
  subst e'
  exact PySem.P.truthy_int ⟨H,I,q⟩
 | str y=>
  obtain⟨t,rfl⟩:=rx
  obtain⟨hy,e'⟩:y.length≤sizeLine∧k=((y.length:Int) != 0):=e
  subst e'
  exact PySem.P.truthy_str (by omega) ⟨H,I.tok _,q⟩
 | Fu y=>
  obtain⟨t,rfl⟩:=rx
  obtain⟨hy,e'⟩:y.size≤sizeLine∧k=((y.size:Int) != 0):=e
  subst e'
  exact W.truthy_bytes (by omega) ⟨H,I.tok _,q⟩
 | ref p=>
  cases rx
  have e':(∃xs,hE X.K H p xs∧k=!xs.isEmpty)∨(∃xs,rn X.K H p xs∧k=!xs.isEmpty)∨∃kvs,H p=some (.dK kvs)∧k=!kvs.isEmpty:=e
  rcases e' with⟨xs,hx,e'⟩|⟨xs,hx,e'⟩|⟨kvs,hx,e'⟩
  ·subst e'
   obtain⟨ib,r,pl,hz⟩:=I.list hx
   have hlen:=r.length
   exact wpAny_truthy_list pl.isList (by simp only [aai];omega) ⟨H,I.tok _,by rw[zo r];exact q⟩
  ·subst e'
   obtain⟨ib,r,pl,hz⟩:=I.tuple hx
   have hlen:=r.length
   exact truthy_tuple pl (by simp only [aai];omega) ⟨H,I.tok _,by rw[zo r];exact q⟩
  ·subst e'
   obtain⟨hz,hS,vs,r,m⟩:kvs.length≤sizeLine∧(p ==sysModules)=false∧∃vs,KV kvs vs∧s.heap.DictOf (jf X.prog X.w) p vs:=I.iP p _ hx
   have hlen:kvs.length=vs.length:=aaq r
   exact wpAny_truthy_dict hS m (by omega) ⟨H,I.tok _,by rw[Fw r];exact q⟩
 | _=>exact(show False from e).elim
theorem uY(ha:PE X a ta)(he:∀whole,isTrue a X.env whole=(do let v ←whole;standAt a.pos;holding [v] (truthy v))) :
  PT X a (fun σ H Q=>ta σ H fun x H'=>∃k,RE X.K x H' k∧Q k H'):=by
 intro c_ s σ H Q I h
 exact isTrue_plain (i8 (ha c_ s σ H _ I h) fun v s1 ⟨x,H1,I1,r1,q1⟩=>Ou c_ s1 σ H1 x v Q I1 r1 q1) (he _)
theorem zp:yG X (binaryOp .Add) (fun x y H Q=>∃i j,x=.str i∧y=.str j∧i.length+j.length≤sizeLine∧Q (.str (i++j)) H):=by
 intro c_ s σ H x y v u Q I rx ry h
 obtain⟨i,j,rfl,rfl,hz,q⟩:=h
 obtain⟨t,rfl⟩:=rx
 obtain⟨t',rfl⟩:=ry
 exact add_str (fun t' tk=>⟨.str (i++j),H,I.tok _,⟨_,rfl⟩,q⟩) hz
theorem vals1{x:V}{us:List Value}(r:Vals [x] us):∃u,us=[u]∧RelV x u:=by
 cases r with
 | cons r1 r2=>cases r2;exact⟨_,rfl,r1⟩
theorem vals2{x y:V}{us:List Value}(r:Vals [x,y] us):∃u w',us=[u,w']∧RelV x u∧RelV y w':=by
 cases r with
 | cons r1 r2=>
  cases r2 with
  | cons r3 r4=>cases r4;exact⟨_,_,rfl,r1,r3⟩
theorem HE(hc:X.calm=true):xC X (.builtin "max") (fun xs H Q=>∃i j,xs=[.int i,.int j]∧Q (.int (if j>i then j else i)) H):=by
 intro c_ s σ H xs us Q I r h
 obtain⟨i,j,rfl,q⟩:=h
 obtain⟨u,w',rfl,⟨t,rfl⟩,⟨t',rfl⟩⟩:=vals2 r
 refine max_two_ints (I.ok.hd hc) fun h' tk k=>⟨_,H,I.kept k,?_,q⟩
 by_cases hj:j>i
 ·rw[aap hj,aap hj];exact⟨_,rfl⟩
 ·rw[aak hj,aak hj];exact⟨_,rfl⟩
end
structure Fx(h:Heap)(x dx C:Addr)(mA:Qqx):Prop where
 obj:h.get? x=some (W.instObj C dx)
 ns:h.Ns1 dx mA
 ne:dx≠x
theorem HF{h:Heap}{dx:Addr}{mA:Qqx}(n:h.Ns1 dx mA):∃od,h.get? dx=some od∧∀name,W.lookIn name od=some (mA name):=by
 obtain⟨o,es,ep,ho,hd,hk,_,hm⟩:=n
 refine⟨o,ho,fun name=>?_⟩
 have e:=hm name
 unfold nsFind findBy at e
 rw[←Array.find?_toList] at e
 unfold W.lookIn
 rw[hd]
 dsimp only
 split
 ·rename_i y q
  rw[q] at e
  exact aa4 some e
 ·rename_i q
  rw[q] at e
  have a:es.toList.any (·.refKey)=false:=by
   rw[List.any_eq_false]
   intro y hy
   obtain⟨z,t,P0⟩:=hk y (Array.mem_toList_iff.mp hy)
   simp[DictEntry.refKey,P0]
  have a':¬es.toList.any (·.refKey)=true:=by rw[a];exact aah
  rw[aak a']
  exact aa4 some e
theorem Fx.look{h:Heap}{x dx C:Addr}{mA:Qqx}(I:Fx h x dx C mA):∃od,W.InstAt h x (W.instObj C dx) C (some od)∧∀name,W.lookIn name od=some (mA name):=
 let ⟨od,ho,hl⟩:=HF I.ns
 ⟨od,⟨I.obj,rfl,rfl,ho⟩,hl⟩
section
variable{prog:Program}{w:World}{A:Around}{E:Qqq}{s:Shared}{K:Qqy}{x dx C f:Addr}{mA:Qqx}{name:Str}{v:Value}
theorem get_map{expr:Bool}{Q:Qqq}(X:K.In s.heap)(I:Fx s.heap x dx C mA)(hg:W.plainGet K C name=true)(hh:W.hasDictIn K C=true)
  (ha:W.findIn K (.ref C) name=some none) (hv:mA name=some v) (hv':W.handedIn v=true) (h:Q v {s with toks:=s.toks+1}) :
  wpAny (model prog w) A (getAttr (.ref x) name expr) Q E s:=by
 obtain⟨od,J,hl⟩:=I.look
 exact W.get_value X J (W.plainGet_of hg).1 (W.findObj_own hh ha rfl (by rw[hl,hv])) hv' h
theorem Jj{pl:Sem Bool}{Q:Value×List Value→Shared→Prop}(X:K.In s.heap)(I:Fx s.heap x dx C mA)(hg:W.plainGet K C name=true)
  (hf:W.findIn K (.ref C) name=some (some (.ref f))) (ht:W.isFn K (.ref f)=true) (hv:mA name=none) (h:Q (.ref f,[.ref x]) s) :
  wpAny (model prog w) A (getMethod (.ref x) name pl) Q E s:=by
 obtain⟨od,J,hl⟩:=I.look
 exact W.method_fn X J (W.plainGet_of hg).1 (W.plainGet_of hg).2 hf (ab2.mp ht) (by show(W.lookIn name od).map (·.isSome)=some false;rw[hl,hv];rfl) h
theorem LQ{ns:List Str}{Q:Unit→Shared→Prop}(X:K.In s.heap)(I:Fx s.heap x dx C mA)
  (hs:W.findIn K (.ref C) "__setattr__"=some (some (.builtin "object.__setattr__"))) (hp:W.plainOver K C=true) (ht:W.takerIn K C name=some none) (hh:W.hasDictIn K C=true)
  (hw:PySem.Within mA ns) (hsz:ns.length≤sizeLine)
  (h:∀h',Fx h' x dx C (fun y=>if y=name then some v else mA y)→Heap.SameBut dx s.heap h'→Q () {s with heap:=h',toks:=s.toks+2}) :
  wpAny (model prog w) A (setAttr (.ref x) name v) Q E s:=by
 obtain⟨od,J,hl⟩:=I.look
 refine W.set_plain X J hs (W.osa_open (s:={s with toks:=s.toks+1}) (r:=none) X J hp ht fun b=>?_)
 obtain⟨cd,hc,Wt⟩:=W.any_some hh
 have hx:s.heap.get? x=some ⟨.ref C,some dx,.plain,#[]⟩:=I.obj
 refine V8 (aao (V8 (V8 (wpAny_loadPart hx (V8 (W.Looks.here (s:={s with toks:=s.toks+1}) (W.looks_clsIn X hc) ?_))))))
 rw[Wt]
 refine aao (a:=some dx) (V8 (aao (V8 ?_)))
 refine wpAny_nsSet1 (s:={s with toks:=s.toks+1}) I.ns fun h' P1 IU=>?_
 obtain⟨oD,esD,epD,hoD,hdD,hcD⟩:=P1.count (PySem.Within.cons name v hw)
 refine V8 (wpAny_lookBehind hoD (by rw[hdD];exact pastItsLine_dict (aac hcD (by rw[aae];omega))) ?_)
 exact aao (h _ ⟨(IU.2 _ (abJ I.ne)).trans I.obj,P1,I.ne⟩ IU)
theorem Jk{R:Result→Shared→Prop}{vs:List Value}{kw:List (Str×Value)}(X:K.In s.heap)(hm:W.makesIn K C=true)
  (hi:W.findIn K (.ref C) "__init__"=some (some (.ref f))) (hf:W.typeIn K (.ref f)=some (.type "function"))
  (h:codeAny (model prog w) (A.under (.builtin "type.__call__" ⟨.ref C::vs,kw⟩)) (.call (.ref f) ⟨.ref (s.heap.objs.size+1)::vs,kw⟩) (W.InitBack (s.heap.objs.size+1) R)
   {s with heap:=(s.heap.push W.emptyDict).push (W.instObj C s.heap.objs.size)}) :
  codeAny (model prog w) A (.call (.ref C) ⟨vs,kw⟩) R s:=by
 obtain⟨hh,g,d,t,os⟩:=s
 exact W.make_core (W.makes_of X hm) (W.looks_findIn X hi) (fun self=>W.bind_fn X self hf) (.inl rfl) h
end
noncomputable def jC(f:Str)(v:V):List (Str×V)→List (Str×V)
 | []=>[(f,v)]
 | (g,x)::r=>if g=f then(g,v)::r else(g,x)::jC f v r
theorem xE(f g:Str)(v:V):∀fs:List (Str×V),(jC f v fs).lookup g=if g=f then some v else fs.lookup g
 | []=>by
  show List.lookup g [(f,v)]=_
  by_cases h:g=f
  ·have hb:(g ==f)=true:=ab2.mpr h
   simp only [List.lookup,hb,aap h]
  ·have hb:(g ==f)=false:=beq_eq_false_iff_ne.mpr h
   simp only [List.lookup,hb,aak h]
 | (k,x)::r=>by
  have ih:=xE f g v r
  rw[show jC f v ((k,x)::r)=(if k=f then(k,v)::r else(k,x)::jC f v r) from rfl]
  by_cases hk:k=f
  ·rw[aap hk]
   by_cases h:g=k
   ·have hb:(g ==k)=true:=ab2.mpr h
    simp only [List.lookup,hb,aap (h.trans hk)]
   ·have hb:(g ==k)=false:=beq_eq_false_iff_ne.mpr h
    simp only [List.lookup,hb,aak (fun e:g=f=>h (e.trans hk.symm))]
  ·rw[aak hk]
   by_cases h:g=k
   ·have hb:(g ==k)=true:=ab2.mpr h
    simp only [List.lookup,hb,aak (fun e:g=f=>hk (h.symm.trans e))]
   ·have hb:(g ==k)=false:=beq_eq_false_iff_ne.mpr h
    simp only [List.lookup,hb]
    exact ih
theorem wB(f:Str)(v:V):∀fs:List (Str×V),f∈(jC f v fs).map (·.1)∧∀g,g∈fs.map (·.1)→g∈(jC f v fs).map (·.1)
 | []=>⟨by simp[jC],fun g h=>by simp at h⟩
 | (k,x)::r=>by
  obtain⟨i1,i2⟩:=wB f v r
  rw[show jC f v ((k,x)::r)=(if k=f then(k,v)::r else(k,x)::jC f v r) from rfl]
  by_cases hk:k=f
  ·rw[aap hk]
   subst hk
   exact⟨by simp,fun g h=>by simpa using h⟩
  ·rw[aak hk]
   refine⟨?_,fun g h=>?_⟩
   ·rw[aav]
    exact aad _ i1
   ·rw[aav] at h ⊢
    rcases W3.mp h with e|e
    ·exact W3.mpr (.inl e)
    ·exact aad _ (i2 g e)
theorem xF(f:Str)(v:V):∀fs:List (Str×V),(jC f v fs).length≤fs.length+1
 | []=>by simp[jC]
 | (k,x)::r=>by
  have ih:=xF f v r
  rw[show jC f v ((k,x)::r)=(if k=f then(k,v)::r else(k,x)::jC f v r) from rfl]
  by_cases hk:k=f
  ·rw[aap hk,aae,aae];omega
  ·rw[aak hk,aae,aae];omega
theorem pI.some_of{v:V}{o:Option Value}(r:pI (some v) o):∃u,o=some u∧RelV v u:=by
 cases o with
 | none=>exact(show False from r).elim
 | some u=>exact⟨u,rfl,r⟩
theorem pI.none_of{o:Option Value}(r:pI none o):o=none:=by
 cases o with
 | none=>rfl
 | some u=>exact(show False from r).elim
theorem HG{v:V}{u:Value}(r:RelV v u):W.handedIn u=true:=by
 cases v with
 | jo=>cases (show u=Value.none from r);rfl
 | bl b=>cases (show u=Value.bool b from r);rfl
 | int i=>obtain⟨t,e⟩:=(show ∃t,u=Value.int i t from r);cases e;rfl
 | str x=>obtain⟨t,e⟩:=(show ∃t,u=Value.str x t from r);cases e;rfl
 | Fu b=>obtain⟨t,e⟩:=(show ∃t,u=Value.bytes b t from r);cases e;rfl
 | Ng b=>obtain⟨t,e⟩:=(show ∃t,u=Value.float b t from r);cases e;rfl
 | ref a=>cases (show u=Value.ref a from r);rfl
 | ty n=>cases (show u=Value.type n from r);rfl
section
variable{P:Program}{w:World}{H H':Hp}{h h':Heap}{a C dx:Addr}{fs fs':List (Str×V)}
theorem yY(iP:rh P w H h)(e:H a=some (.ins C dx fs)):∃mA,Fx h a dx C mA∧(∀f,pI (fs.lookup f) (mA f))∧PySem.Within mA (fs.map (·.1))∧fs.length≤1000∧H dx=some (.own a):=by
 obtain⟨d,z,ne,ob,mA,n,r,q⟩:=(show i9 P w H h a (.ins C dx fs) from iP a _ e)
 exact⟨mA,⟨ob,n,ne⟩,r,q,z,d⟩
end
structure Fo(K:Qqy)(C:Addr):Prop where
 pg:W.plainGet K C Str.empty=true
 hd:W.hasDictIn K C=true
 po:W.plainOver K C=true
 sa:W.findIn K (.ref C) "__setattr__"=some (some (.builtin "object.__setattr__"))
theorem Fo.get{K:Qqy}{C:Addr}(c:Fo K C)(f:Str):W.plainGet K C f=true:=c.pg
def jR(K:Qqy)(C:Addr)(f:Str):Prop:=W.findIn K (.ref C) f=some none
theorem jR.RF{K:Qqy}{C:Addr}{f:Str}(n:jR K C f):W.takerIn K C f=some none:=by
 unfold W.takerIn
 rw[show W.findIn K (.ref C) f=some none from n]
 rfl
structure Meth(K:Qqy)(C:Addr)(m:Str)(f:Addr):Prop where
 at_:W.findIn K (.ref C) m=some (some (.ref f))
 fn:W.isFn K (.ref f)=true
 kp:W.keepIn K (.ref f)=true
section
variable{X:Cx}{c_:Qqz}{σ:St}{H:Hp}{s:Shared}{a C dx:Addr}{fs:List (Str×V)}{f:Str}{v:V}{A:Around}{E:Qqq}
theorem Fy{b:Bool}{Q:Qqq}(I:Inv X c_ σ H s)(e:H a=some (.ins C dx fs))(c:Fo X.K C)(n:jR X.K C f)(l:fs.lookup f=some v)
  (h:∀u s',Inv X c_ σ H s'→RelV v u→Q u s'):wpAny (model X.prog X.w) A (getAttr (.ref a) f b) Q E s:=by
 obtain⟨mA,O,r,_,_,_⟩:=yY I.iP e
 obtain⟨u,hu,ru⟩:=pI.some_of (v:=v) (o:=mA f) (by rw[←l];exact r f)
 exact get_map I.xB O (c.get f) c.hd n hu (HG ru) (h u _ (I.tok _) ru)
theorem zq{m:Str}{g:Addr}{pl:Sem Bool}{Q:Value×List Value→Shared→Prop}(I:Inv X c_ σ H s)(e:H a=some (.ins C dx fs))(c:Fo X.K C)(k:Meth X.K C m g)(l:fs.lookup m=none)
  (h:Q (.ref g,[.ref a]) s):wpAny (model X.prog X.w) A (getMethod (.ref a) m pl) Q E s:=by
 obtain⟨mA,O,r,_,_,_⟩:=yY I.iP e
 have hn:mA m=none:=pI.none_of (by rw[←l];exact r m)
 exact Jj I.xB O (c.get m) k.at_ k.fn hn h
theorem Fz{y:V}{u:Value}{Q:Unit→Shared→Prop}(I:Inv X c_ σ H s)(e:H a=some (.ins C dx fs))(c:Fo X.K C)(n:jR X.K C f)(hl:fs.length<1000)(ry:RelV y u)
  (h:∀s',Inv X c_ σ (upd H a (.ins C dx (jC f y fs))) s'→Q () s'):wpAny (model X.prog X.w) A (setAttr (.ref a) f u) Q E s:=by
 obtain⟨mA,O,r,wi,_,ho⟩:=yY I.iP e
 have hz:(fs.map (·.1)).length≤sizeLine:=by rw[Tj,sizeLine_eq];omega
 refine LQ I.xB O c.sa c.po n.RF c.hd wi hz fun h' O' sb=>h _ ?_
 have hd:∃o,h'.get? dx=some o:=let ⟨o,_,_,e',_⟩:=O'.ns;⟨o,e'⟩
 refine I.write (x:=a) (e:=dx) (by rw[e];exact True.intro) (.inr ho) (fun b q hb z=>(sb.2 b hb).trans z) hd ?_
 refine⟨by rw[e_ O.ne];exact ho,?_,O.ne,O'.obj,_,O'.ns,fun g=>?_,fun g hg=>?_⟩
 ·have:=xF f y fs;omega
 ·show pI ((jC f y fs).lookup g) (if g=f then some u else mA g)
  rw[xE]
  by_cases q:g=f
  ·rw[aap q,aap q];exact ry
  ·rw[aak q,aak q];exact r g
 ·by_cases q:g=f
  ·rw[q];exact(wB f y fs).1
  ·refine(wB f y fs).2 g (wi g fun z=>hg ?_)
   show(if g=f then some u else mA g)=none
   rw[aak q];exact z
theorem Inv.made(I:Inv X c_ σ H s):Inv X c_ σ (upd (upd H s.heap.objs.size (.own (s.heap.objs.size+1))) (s.heap.objs.size+1) (.ins C s.heap.objs.size []))
  {s with heap:=(s.heap.push W.emptyDict).push (W.instObj C s.heap.objs.size)}:=by
 have e1:(s.heap.push W.emptyDict).get? s.heap.objs.size=some W.emptyDict:=aaC s.heap rfl
 have e2:((s.heap.push W.emptyDict).push (W.instObj C s.heap.objs.size)).get? (s.heap.objs.size+1)=some (W.instObj C s.heap.objs.size):=by
  have:=aaC (s.heap.push W.emptyDict) (o:=W.instObj C s.heap.objs.size) rfl
  rwa [Heap.size_push] at this
 have e3:(s.heap.push W.emptyDict).Ns s.heap.objs.size (fun _=>none):=⟨W.emptyDict,#[],_,e1,rfl,(fun e he=>absurd he (by simp)),fun _=>rfl⟩
 have I1:=I.laid (a:=s.heap.objs.size) (o:=.own (s.heap.objs.size+1)) (h':=s.heap.push W.emptyDict) (t':=s.toks) (fun b u q=>aag _ q) (ZA _) ⟨_,e1⟩
 refine I1.laid (a:=s.heap.objs.size+1) (o:=.ins C s.heap.objs.size []) (t':=s.toks) (fun b u q=>aag _ q) (Nat.le_of_eq (Heap.size_push _ _)) ?_
 have ne:s.heap.objs.size≠s.heap.objs.size+1:=aaT (acf _)
 refine⟨by rw[e_ ne,b_],aaI _,ne,e2,fun _=>none,(Heap.Ns1.of_empty e3).at fun o q=>aag _ q,fun _=>True.intro,fun y hy=>absurd rfl hy⟩
theorem LR{prog:Program}{w:World}{env:Env}{e:Expr}{f:Str}{pos:Pos}{s:Shared}{Q:Qqq}(hb:attributeBase e f env (eval e env)=eval e env)
  (h:wpAny (model prog w) A (eval e env) (fun o s₁=>wpAny (model prog w) A (getAttr o f true) Q E s₁) E s):wpAny (model prog w) A (eval (.Attribute e f pos) env) Q E s:=
 Attribute_any_ h (by rw[arm_eval_Attribute,hb])
end
def VP(K:Qqy)(ta:TE)(f:Str):TE:=fun σ H Q=>ta σ H fun x H1=>∃a C dx fs v,x=.ref a∧H1 a=some (.ins C dx fs)∧Fo K C∧jR K C f∧fs.lookup f=some v∧Q v H1
def VQ(K:Qqy)(ta tv:TE)(f:Str):TS:=fun D σ H=>tv σ H fun y H1=>ta σ H1 fun x H2=>∃a C dx fs,x=.ref a∧H2 a=some (.ins C dx fs)∧Fo K C∧jR K C f∧fs.length<1000∧
 D.nx σ (upd H2 a (.ins C dx (jC f y fs)))
section
variable{X:Cx}{o e value:Expr}{f:Str}{pos pos' P2:Pos}{ta tv:TE}
theorem gE(he:PE X e ta)(hb:attributeBase e f X.env (eval e X.env)=eval e X.env):PE X (.Attribute e f pos) (VP X.K ta f):=by
 intro c_ s σ H Q I h
 refine LR hb (i8 (he c_ s σ H _ I h) fun u s1 iM=>?_)
 obtain⟨x,H1,I1,rx,a,C,dx,fs,v,ex,ea,c,n,l,q⟩:=iM
 subst ex
 obtain rfl:u=Value.ref a:=rx
 exact Fy I1 ea c n l fun u' s2 I2 ru=>⟨v,H1,I2,ru,q⟩
theorem lH(ha:PE X o ta)(hv:PE X value tv)(hs:swapsWith value (some (.Attribute o f pos')) pos.line X.env=pure false):PS X (.Assign [.Attribute o f pos'] value pos) (VQ X.K ta tv f):=by
 intro c_ s σ H D I h
 refine plainObj_wpAny_Assign_Attribute (i8 (hv c_ s σ H _ I h) fun u s1 iM=>?_) hs
 obtain⟨y,H1,I1,ry,q⟩:=iM
 refine i8 (ha c_ s1 σ H1 _ I1 q) fun ov s2 IG=>?_
 obtain⟨x,H2,I2,rx,a,C,dx,fs,ex,ea,c,n,l,q2⟩:=IG
 subst ex
 obtain rfl:ov=Value.ref a:=rx
 exact Fz I2 ea c n l ry fun s3 I3=>⟨σ,_,I3,q2⟩
end
section
variable{X:Cx}{c_:Qqz}{σ:St}{H:Hp}{s:Shared}{A:Around}{E:Qqq}{Q:Qqq}{c:Value}{b:Bool}
inductive wC(K:Qqy)(H:Hp):V→Value→Prop where
 | jo:wC K H .jo (.type "NoneType")
 | bl (x:Bool):wC K H (.bl x) (.type "bool")
 | int (i:Int):wC K H (.int i) (.type "int")
 | str (x:Str):wC K H (.str x) (.type "str")
 | Ng (x:UInt64):wC K H (.Ng x) (.type "float")
 | lst {a:Addr} {xs:List V} (e:H a=some (.lst xs)):wC K H (.ref a) (.type "list")
 | nA {a:Addr} {o:Obj} {xs:List V} (e:H a=some (.nA o (.lst xs))):wC K H (.ref a) (.type "list")
 | tup {a:Addr} {xs:List V} (e:H a=some (.tup xs)):wC K H (.ref a) (.type "tuple")
 | dK {a:Addr} {kvs:List (Key×V)} (e:H a=some (.dK kvs)):wC K H (.ref a) (.type "dict")
 | dT {a:Addr} {kvs:List (List Key×V)} (e:H a=some (.dT kvs)):wC K H (.ref a) (.type "dict")
 | ins {a C dx:Addr} {fs:List (Str×V)} (e:H a=some (.ins C dx fs)) (cl:Fo K C) (ha:W.findIn K (.ref C) "__class__"=some (some (.builtin "object.__class__")))
  (hn:W.specialIn K (.builtin "object.__class__") "__get__"=some (some (.builtin "getset_descriptor.__get__"))) (ZP:W.takesIn K (.builtin "object.__class__")=some true)
  (hm:W.mroIn K C (.type "object")=some true):wC K H (.ref a) (.ref C)
theorem HH{x:V}{u t:Value}(I:Inv X c_ σ H s)(rx:RelV x u)(ty:wC X.K H x t)(e:W.kitOne X.K t c=some b)(h:∀tk,Q (.bool b) {s with toks:=tk}) :
  wpAny (model X.prog X.w) A (call (.builtin "isinstance") [u,c]) Q E s:=by
 cases ty with
 | jo=>cases (show u=Value.none from rx);exact abf W.kitx_none I.xB True.intro e (fun z=>nomatch z) h
 | bl y=>cases (show u=Value.bool y from rx);exact abf W.kitx_bool I.xB True.intro e (fun z=>nomatch z) h
 | int i=>obtain⟨t,q⟩:=(show ∃t,u=Value.int i t from rx);cases q;exact abf W.kitx_int I.xB True.intro e (fun z=>nomatch z) h
 | str y=>obtain⟨t,q⟩:=(show ∃t,u=Value.str y t from rx);cases q;exact abf W.kitx_str I.xB True.intro e (fun z=>nomatch z) h
 | Ng y=>obtain⟨t,q⟩:=(show ∃t,u=Value.float y t from rx);cases q;exact abf W.kitx_float I.xB True.intro e (fun z=>nomatch z) h
 | @lst a xs ea=>
  cases (show u=Value.ref a from rx)
  obtain⟨_,_,n,_,h1⟩:=(show i9 X.prog X.w H s.heap a (.lst xs) from I.iP a _ ea)
  exact abf W.kitx_list I.xB ⟨_,h1,rfl⟩ e (fun z=>nomatch z) h
 | @nA a ob xs ea=>
  cases (show u=Value.ref a from rx)
  obtain⟨_,_,_,n,_,h1⟩:=(show i9 X.prog X.w H s.heap a (.nA ob (.lst xs)) from I.iP a _ ea)
  exact abf W.kitx_list I.xB ⟨_,h1,rfl⟩ e (fun z=>nomatch z) h
 | @tup a xs ea=>
  cases (show u=Value.ref a from rx)
  obtain⟨_,_,_,p⟩:=(show i9 X.prog X.w H s.heap a (.tup xs) from I.iP a _ ea)
  obtain⟨o,h1,h2,_⟩:=p
  exact abf W.kitx_tuple I.xB ⟨o,h1,h2⟩ e (fun z=>nomatch z) h
 | @dK a kvs ea=>
  cases (show u=Value.ref a from rx)
  obtain⟨_,_,vs,_,p⟩:=(show i9 X.prog X.w H s.heap a (.dK kvs) from I.iP a _ ea)
  obtain⟨o,es,ep,h1,h2,_⟩:=p
  exact abf W.kitx_dict I.xB ⟨o,h1,h2.1⟩ e (fun z=>nomatch z) h
 | @dT a kvs ea=>
  cases (show u=Value.ref a from rx)
  obtain⟨_,_,xs,_,o,es,ep,h1,h2,_⟩:=(show i9 X.prog X.w H s.heap a (.dT kvs) from I.iP a _ ea)
  exact abf W.kitx_dict I.xB ⟨o,h1,h2.1⟩ e (fun z=>nomatch z) h
 | @ins a C dx fs ea cl ha hn ZP hm=>
  cases (show u=Value.ref a from rx)
  obtain⟨mA,O,_⟩:=yY I.iP ea
  obtain⟨od,J,_⟩:=O.look
  exact abf (W.kitx_own (cl.get _) cl.hd ha hn ZP hm) I.xB J e (fun z=>nomatch z) h
end
structure kD(k:Nat)(A:Around):Prop where
 hd:A.handled=none
 dp:A.depth+3*k+5<recursionLimit
 un:A.units+16*k+200<cLine
theorem kD.mono{j k:Nat}{A:Around}(r:kD k A)(h:j≤k):kD j A:=⟨r.hd,by have:=r.dp;omega,by have:=r.un;omega⟩
theorem kD.deeper{k:Nat}{A:Around}(r:kD (k+1) A)(env:Env):kD k (A.deeper env):=
 ⟨r.hd,by have:=r.dp;show A.depth+1+3*k+5<_;omega,by have:=r.un;show A.units+3+16*k+200<_;omega⟩
theorem FA{A:Around}{C:Addr}{us:List Value}{kw:List (Str×Value)}:(A.under (.builtin "type.__call__" ⟨.ref C::us,kw⟩)).depth=A.depth+1:=by
 first|rfl|simp[Around.under,Code.weight,Code.isCreation,Code.isGuard,Code.isCaller,Code.frames,Code.isFrame,guardIds]
theorem FC{A:Around}{C:Addr}{us:List Value}{kw:List (Str×Value)}:(A.under (.builtin "type.__call__" ⟨.ref C::us,kw⟩)).units=A.units+1:=by
 first|rfl|simp[Around.under,Code.cUnits,Code.frames,Code.isFrame]
theorem kD.make{k:Nat}{A:Around}(r:kD (k+1) A)(C:Addr)(us:List Value)(kw:List (Str×Value)):kD k (A.under (.builtin "type.__call__" ⟨.ref C::us,kw⟩)):=
 ⟨r.hd,by have:=r.dp;rw[FA];omega,by have:=r.un;rw[FC];omega⟩
theorem kD.depth{k:Nat}{A:Around}(r:kD k A):A.depth<recursionLimit:=by have:=r.dp;omega
theorem kD.units{k:Nat}{A:Around}(r:kD k A):A.units+64<cLine:=by have:=r.un;omega
def Ov:TA:=fun _ H Q=>Q [] H
def RG(ta:TE)(tr:TA):TA:=fun σ H Q=>ta σ H fun x H1=>tr σ H1 fun xs H2=>Q (x::xs) H2
section
variable{X:Cx}{e:Expr}{es:List Expr}{te:TE}{t:TA}{pos:Pos}
theorem d_:PA X [] Ov:=fun _ _ _ _ H Q I h=>abv ⟨[],H,I,.nil,h⟩
theorem a_(ha:PE X e te)(hr:PA X es t)(hs:starEach (e::es) X.env=(false,eval e X.env)::starEach es X.env:=by rfl):PA X (e::es) (RG te t):=by
 intro pos c_ s σ H Q I h
 rw[hs]
 show wpAny _ _ (spliced ((false,eval e X.env)::backTo pos (starEach es X.env))) _ _ s
 refine abb (i8 (ha c_ s σ H _ I h) fun u s1 iM=>?_)
 obtain⟨x,H1,I1,r1,q1⟩:=iM
 exact i8 (hr pos c_ s1 σ H1 _ I1 q1) fun us s2 ⟨xs,H2,I2,r2,q2⟩=>⟨x::xs,H2,I2,.cons r1 r2,q2⟩
def VR(t:TA):TE:=fun σ H Q=>t σ H fun xs H1=>xs.length≤sizeLine∧∀p,H1 p=none→Q (.ref p) (upd H1 p (.tup xs))
def VS(t:TA):TE:=fun σ H Q=>t σ H fun xs H1=>xs.length≤sizeLine∧∀p,H1 p=none→Q (.ref p) (upd H1 p (.lst xs))
theorem Cq{x1}(h:PA X es t):PE X (.Tuple es x1 pos) (VR t):=by
 intro c_ s σ H Q I hq
 refine wpAny_Tuple_spliced (i8 (h pos c_ s σ H _ I hq) fun us s1 iM=>?_)
 obtain⟨xs,H1,I1,r,z,q⟩:=iM
 refine⟨by rw[←r.length];exact z,?_⟩
 have hf:H1 s1.heap.objs.size=none:=I1.iP.fresh (ZA _)
 refine⟨.ref s1.heap.objs.size,upd H1 s1.heap.objs.size (.tup xs),I1.laid (t':=s1.toks) (fun b u e=>aag _ e) (ZA _) ?_,rfl,q _ hf⟩
 exact⟨z,us,r,⟨_,aaC _ rfl,rfl,_,rfl⟩⟩
theorem iW(h:PA X es t):PE X (.List es pos) (VS t):=by
 intro c_ s σ H Q I hq
 refine wpAny_List_spliced (i8 (h pos c_ s σ H _ I hq) fun us s1 iM=>?_)
 obtain⟨xs,H1,I1,r,z,q⟩:=iM
 refine⟨by rw[←r.length];exact z,?_⟩
 have hf:H1 s1.heap.objs.size=none:=I1.iP.fresh (ZA _)
 refine⟨.ref s1.heap.objs.size,upd H1 s1.heap.objs.size (.lst xs),I1.laid (t':=s1.toks) (fun b u e=>aag _ e) (ZA _) ?_,rfl,q _ hf⟩
 exact⟨z,us,0,r,aaC _ rfl⟩
end
abbrev Sp:=List V→Hp→VK→XK→Prop
abbrev GQ:=List Env→Hp→Shared→XK→Qqq
structure FD(P:Program)(w:World)(K:Qqy)(mg:Qqx)(base:Heap)(A:Around)(outer:List Env)(s:Shared)(H:Hp):Prop where
 frames:A.frames=some outer
 mod:Mod K mg base
 bs:∀b o,base.get? b=some o→s.heap.get? b=some o∧H b=none
 LM:base.objs.size≤s.heap.objs.size
 uU:s.heap.FunFrames base outer
 Ni:∀b∈uf outer,H b=none
 iP:rh P w H s.heap
 bare:AllBare s.gens
def CE(outer:List Env)(P:Program)(w:World)(H:Hp)(s:Shared)(Q:VK)(u:Value)(s':Shared):Prop:=
 ∃v H',s'.os=s.os∧AllBare s'.gens∧Un (uf outer) [] H H' s.heap s'.heap∧rh P w H' s'.heap∧RelV v u∧Q v H'
def CR(CX:GQ)(outer:List Env)(P:Program)(w:World)(H:Hp)(s:Shared)(Q:VK)(E:XK)(r:Result)(s':Shared):Prop:=
 match r with
 | .ok (.ret u)=>CE outer P w H s Q u s'
 | .ok _=>False
 | .error e=>CX outer H s E e s'
structure ip(P:Program)(w:World)(K:Qqy)(mg:Qqx)(base:Heap)(CX:GQ)(k:Nat)(f:Addr)(fd:FuncData)(ps:List Str)(sp:Sp):Prop where
 len:∀vs H Q E,sp vs H Q E→vs.length=ps.length
 run:∀(A:Around)(outer:List Env)(s:Shared)(H:Hp)(args:Args)(us:List Value)(vs:List V)(Q:VK)(E:XK),kD k A→FD P w K mg base A outer s H→BindsTo s fd args (ps.zip us)→Vals vs us→sp vs H Q E→
  codeAny (model P w) A (.call (.ref f) args) (CR CX outer P w H s Q E) s
theorem ip.mono{P:Program}{w:World}{K:Qqy}{mg:Qqx}{base:Heap}{CX:GQ}{j k:Nat}{f:Addr}{fd:FuncData}{ps:List Str}{sp:Sp}(F:ip P w K mg base CX j f fd ps sp)(h:j≤k) :
 ip P w K mg base CX k f fd ps sp:=⟨F.len,fun A outer s H args us vs Q E hr=>F.run A outer s H args us vs Q E (hr.mono h)⟩
theorem FD.make{P:Program}{w:World}{K:Qqy}{mg:Qqx}{base:Heap}{A:Around}{outer:List Env}{s:Shared}{H:Hp}(e:FD P w K mg base A outer s H)(C:Addr)(us:List Value)(kw:List (Str×Value)) :
 FD P w K mg base (A.under (.builtin "type.__call__" ⟨.ref C::us,kw⟩)) outer s H:=⟨by first|exact e.frames|(simpa[Around.under,Code.envs,Code.isFrame,pushEnvs] using e.frames),e.mod,e.bs,e.LM,e.uU,e.Ni,e.iP,e.bare⟩
section
variable{X:Cx}{c_:Qqz}{σ:St}{H:Hp}{s s':Shared}
theorem Inv.RH(I:Inv X c_ σ H s):FD X.prog X.w X.K X.mg X.base X.A X.stack s H:=
 ⟨I.ok.frames,I.ok.mod,I.bs,aac I.ok.LM I.sz,I.stack,I.Cn,I.iP,I.bare⟩
theorem Inv.after{Q:VK}{u:Value}(I:Inv X c_ σ H s)(h:CE X.stack X.prog X.w H s Q u s'):EP X c_ σ Q u s':=by
 obtain⟨v,H',os,bare,un,iP,r,q⟩:=h
 obtain⟨hh,g,d,t,os'⟩:=s'
 obtain rfl:os'=s.os:=os
 exact⟨v,H',I.call (h':=hh) (g':=g) (d':=d) (t':=t) (ch:=[]) un iP bare (fun b z=>absurd z (by simp)),r,q⟩
end
def Jl(sp:Sp)(ze:List V)(E:XK)(t:TA):TE:=fun σ H Q=>t σ H fun vs H1=>sp (vs++ze) H1 Q E
def GR(C:Addr)(m:Str)(sp:Sp)(ze:List V)(E:XK)(ta:TE)(t:TA):TE:=fun σ H Q=>ta σ H fun x H1=>∃a dx fs,x=.ref a∧H1 a=some (.ins C dx fs)∧fs.lookup m=none∧
 t σ H1 fun vs H2=>sp (x::(vs++ze)) H2 Q E
def Nn(C:Addr)(sp:Sp)(ze:List V)(E:XK)(t:TA):TE:=fun σ H Q=>t σ H fun vs H1=>∀x dx,H1 x=none→H1 dx=none→dx≠x→
 sp (.ref x::(vs++ze)) (upd (upd H1 dx (.own x)) x (.ins C dx [])) (fun v H2=>v=.jo∧Q (.ref x) H2) E
def Binds(K:Qqy)(fd:FuncData)(ps:List Str)(ds:List Value):Prop:=
 ∀(s:Shared)(us:List Value),K.In s.heap→(us++ds).length=ps.length→BindsTo s fd ⟨us,[]⟩ (ps.zip (us++ds))
theorem Binds.all{K:Qqy}{fd:FuncData}{ps:List Str}(h:∀us:List Value,us.length=ps.length→bindArgs fd ⟨us,[]⟩=pure (ps.zip us)):Binds K fd ps []:=fun s us _ hl=>by
 rw[aaa] at hl ⊢
 exact .of_eq (h us hl)
def Passes(CX:GQ)(X:Cx)(E:XK):Prop:=∀(c_:Qqz)(σ:St)(H:Hp)(s:Shared)(e:Value)(s':Shared),Inv X c_ σ H s→CX X.stack H s E e s'→X.xe e s'
section
variable{X:Cx}{CX:GQ}{k:Nat}{f C:Addr}{fd:FuncData}{ps:List Str}{sp:Sp}{ze:List V}{ds:List Value}{E:XK}{x m:Str}{p pos apos:Pos}{e o:Expr}{es:List Expr}{ta:TE}{t:TA}
theorem FE{c_:Qqz}{σ:St}{H:Hp}{s:Shared}{Q:VK}{us:List Value}{vs:List V}(F:ip X.prog X.w X.K X.mg X.base CX k f fd ps sp)(hr:kD k X.A)(hb:Binds X.K fd ps ds)(hd:Vals ze ds)(hx:Passes CX X E)
  (I:Inv X c_ σ H s) (r:Vals vs us) (h:sp (vs++ze) H Q E):wpAny (model X.prog X.w) X.A (call (.ref f) us) (EP X c_ σ Q) X.xe s:=by
 have r2:Vals (vs++ze) (us++ds):=r.append hd
 have hl:(us++ds).length=ps.length:=by rw[←r2.length];exact F.len _ _ _ _ h
 refine wpAny_call (codeAny_mono (F.run X.A X.stack s H ⟨us,[]⟩ (us++ds) (vs++ze) Q E hr I.RH (hb s us I.xB hl) r2 h) fun r s' hq=>?_)
 cases r with
 | error e=>exact hx c_ σ H s e s' I hq
 | ok fl=>
  cases fl with
  | ret u=>exact I.after hq
  | next=>exact False.elim hq
  | brk=>exact False.elim hq
  | cont=>exact False.elim hq
theorem uZ(F:ip X.prog X.w X.K X.mg X.base CX k f fd ps sp)(hr:kD k X.A)(hg:Gl X x)(hm:X.mg x=some (.ref f))(hk:W.keepIn X.K (.ref f)=true)(hb:Binds X.K fd ps ds)(hd:Vals ze ds)(hx:Passes CX X E)
  (ha:PA X (e::es) t) (Gx:(x ==("__debug__":Str))=false:=by decide) (he:starEach (e::es) X.env=(false,eval e X.env)::starEach es X.env:=by rfl) (qg:(backTo pos (starEach es X.env)).any (·.1)=false:=by rfl) :
  PE X (.Call (.Name x p) (e::es) [] pos) (Jl sp ze E t):=by
 intro c_ s σ H Q I h
 refine wpAny_Call_Name_kw (uV I hg hm ?_ Gx)
 refine W.callWith_K (h₀:=X.base) I.ok.mod.QG hk (i8 (ha pos c_ s σ H _ I h) fun us s1 iM=>?_) he qg
 obtain⟨vs,H1,I1,r,q⟩:=iM
 refine⟨I1.xB,?_⟩
 exact FE F hr hb hd hx I1 r q
theorem GS{pl:Sem Bool}(he:PE X o ta)(c:Fo X.K C)(hm:Meth X.K C m f)(F:ip X.prog X.w X.K X.mg X.base CX k f fd ps sp)(hr:kD k X.A)(hb:Binds X.K fd ps ds)(hd:Vals ze ds)(hx:Passes CX X E)(ha:PA X (e::es) t)
  (lG:starEach (e::es) X.env=(false,eval e X.env)::starEach es X.env:=by rfl) (qg:(backTo pos (starEach es X.env)).any (·.1)=false:=by rfl)
  (ht:eval (.Call (.Attribute o m apos) (e::es) [] pos) X.env=(do
   let ov ←eval o X.env
   standAt apos.atName
   let (f,first) ←holding [ov] (getMethod ov m pl)
   callWith pos f first (backTo pos (starEach (e::es) X.env)) (backToKw pos (keywordEach [] X.env))):=by rfl) :
  PE X (.Call (.Attribute o m apos) (e::es) [] pos) (GR C m sp ze E ta t):=by
 intro c_ s σ H Q I h
 refine W.methodCall_KW (pl:=pl) (i8 (he c_ s σ H _ I h) fun u s1 iM=>?_) ht
 obtain⟨x,H1,I1,rx,a,dx,fs,ex,ea,l,q⟩:=iM
 subst ex
 obtain rfl:u=Value.ref a:=rx
 refine zq I1 ea c hm l ?_
 refine W.callWith_K (first:=[.ref a]) (h₀:=X.base) I.ok.mod.QG hm.kp (i8 (ha pos c_ s1 σ H1 _ I1 q) fun us s2 iM=>?_) lG qg
 obtain⟨vs,H2,I2,r,q2⟩:=iM
 refine⟨I2.xB,?_⟩
 exact FE (us:=.ref a::us) (vs:=.ref a::vs) F hr hb hd hx I2 (.cons rfl r) q2
theorem D6{pl:Sem Bool}(he:PE X o ta)(c:Fo X.K C)(hm:Meth X.K C m f)(F:ip X.prog X.w X.K X.mg X.base CX k f fd ps sp)(hr:kD k X.A)(hb:Binds X.K fd ps ds)(hd:Vals ze ds)(hx:Passes CX X E)
  (ht:eval (.Call (.Attribute o m apos) [] [] pos) X.env=(do
   let ov ←eval o X.env
   standAt apos.atName
   let (f,first) ←holding [ov] (getMethod ov m pl)
   callWith pos f first (backTo pos (starEach [] X.env)) (backToKw pos (keywordEach [] X.env))):=by rfl) :
  PE X (.Call (.Attribute o m apos) [] [] pos) (GR C m sp ze E ta Ov):=by
 intro c_ s σ H Q I h
 refine W.methodCall_KW (pl:=pl) (i8 (he c_ s σ H _ I h) fun u s1 iM=>?_) ht
 obtain⟨x,H1,I1,rx,a,dx,fs,ex,ea,l,q⟩:=iM
 subst ex
 obtain rfl:u=Value.ref a:=rx
 refine zq I1 ea c hm l ?_
 exact W.callWith_K0 (first:=[.ref a]) I1.xB hm.kp (FE (us:=[.ref a]) (vs:=[.ref a]) F hr hb hd hx I1 (.cons rfl .nil) q)
structure Mk(K:Qqy)(C f:Addr):Prop where
 makes:W.makesIn K C=true
 init:W.findIn K (.ref C) "__init__"=some (some (.ref f))
 fn:W.isFn K (.ref f)=true
 kp:W.keepIn K (.ref C)=true
theorem D7{c_:Qqz}{σ:St}{H:Hp}{s:Shared}{Q:VK}{us:List Value}{vs:List V}(M:Mk X.K C f)(F:ip X.prog X.w X.K X.mg X.base CX k f fd ps sp)(hr:kD (k+1) X.A)(hb:Binds X.K fd ps ds)(hd:Vals ze ds)
  (hx:Passes CX X E) (I:Inv X c_ σ H s) (r:Vals vs us)
  (h:∀x dx,H x=none→H dx=none→dx≠x→sp (.ref x::(vs++ze)) (upd (upd H dx (.own x)) x (.ins C dx [])) (fun v H2=>v=.jo∧Q (.ref x) H2) E) :
  wpAny (model X.prog X.w) X.A (call (.ref C) us) (EP X c_ σ Q) X.xe s:=by
 have hq:=h (s.heap.objs.size+1) s.heap.objs.size (I.iP.fresh (Nat.le_succ _)) (I.iP.fresh (ZA _)) (aaT (acf _))
 have I2:=Inv.made (C:=C) I
 have r2:Vals (V.ref (s.heap.objs.size+1)::(vs++ze)) (Value.ref (s.heap.objs.size+1)::(us++ds)):=.cons rfl (r.append hd)
 have hl:(Value.ref (s.heap.objs.size+1)::us++ds).length=ps.length:=by
  have e:=r2.length
  rw[F.len _ _ _ _ hq] at e
  exact e.symm
 refine wpAny_call (Jk (f:=f) I.xB M.makes M.init (ab2.mp M.fn) (codeAny_mono (F.run _ X.stack _ _ ⟨Value.ref (s.heap.objs.size+1)::us,[]⟩ (Value.ref (s.heap.objs.size+1)::(us++ds)) _ _ E (hr.make C us [])
  (I2.RH.make C us []) (hb _ (Value.ref (s.heap.objs.size+1)::us) I2.xB hl) r2 hq) fun r s' SO=>?_))
 cases r with
 | error e=>exact hx c_ σ _ _ e s' I2 SO
 | ok fl=>
  cases fl with
  | ret u=>
   obtain⟨v,H',I3,rv,ev,q3⟩:=I2.after SO
   subst ev
   exact⟨rv,⟨V.ref (s.heap.objs.size+1),H',I3,rfl,q3⟩⟩
  | next=>exact False.elim SO
  | brk=>exact False.elim SO
  | cont=>exact False.elim SO
theorem u0(M:Mk X.K C f)(F:ip X.prog X.w X.K X.mg X.base CX k f fd ps sp)(hr:kD (k+1) X.A)(hg:Gl X x)(hm:X.mg x=some (.ref C))(hb:Binds X.K fd ps ds)(hd:Vals ze ds)(hx:Passes CX X E)
  (ha:PA X (e::es) t) (Gx:(x ==("__debug__":Str))=false:=by decide) (he:starEach (e::es) X.env=(false,eval e X.env)::starEach es X.env:=by rfl) (qg:(backTo pos (starEach es X.env)).any (·.1)=false:=by rfl) :
  PE X (.Call (.Name x p) (e::es) [] pos) (Nn C sp ze E t):=by
 intro c_ s σ H Q I h
 refine wpAny_Call_Name_kw (uV I hg hm ?_ Gx)
 refine W.callWith_K (h₀:=X.base) I.ok.mod.QG M.kp (i8 (ha pos c_ s σ H _ I h) fun us s1 iM=>?_) he qg
 obtain⟨vs,H1,I1,r,q⟩:=iM
 refine⟨I1.xB,?_⟩
 exact D7 M F hr hb hd hx I1 r q
theorem Jm(M:Mk X.K C f)(F:ip X.prog X.w X.K X.mg X.base CX k f fd ps sp)(hr:kD (k+1) X.A)(hg:Gl X x)(hm:X.mg x=some (.ref C))(hb:Binds X.K fd ps ds)(hd:Vals ze ds)(hx:Passes CX X E)
  (Gx:(x ==("__debug__":Str))=false:=by decide):PE X (.Call (.Name x p) [] [] pos) (Nn C sp ze E Ov):=by
 intro c_ s σ H Q I h
 refine wpAny_Call_Name_kw (uV I hg hm ?_ Gx)
 exact W.callWith_K0 I.xB M.kp (D7 (us:=[]) M F hr hb hd hx I .nil h)
end
def PK(X:Cx)(ZQ:List Keyword)(t:TA):Prop:=
 ∀(pos:Pos)(c_:Qqz)(s:Shared)(σ:St)(H:Hp)(Q:List V→Hp→Prop),Inv X c_ σ H s→t σ H Q→wpAny (model X.prog X.w) X.A (evalAll ((backToKw pos (keywordEach ZQ X.env)).map (·.2))) (AP X c_ σ Q) X.xe s
section
variable{X:Cx}{CX:GQ}{k:Nat}{f C:Addr}{fd:FuncData}{ps ks:List Str}{sp:Sp}{E:XK}{x m:Str}{p pos apos kpos:Pos}{e o:Expr}{es:List Expr}{ZQ:List Keyword}{te ta:TE}{t tk:TA}{nm:Option Str}
variable{g:List Value→List Value→List Value}{gV:List V→List V→List V}
end
structure gB(N P:List Str)(sc:Scope):Prop where
 kind:sc.kind=.function
 co:sc.isCoroutine=false
 gen:sc.isGenerator=false
 nd:N.Nodup
 pre:N.take P.length=P
 par:∀x∈P,sc.names.lookup x=some .local∨sc.names.lookup x=some .cell
 Ow:∀y∈sc.names,y.2≠.free
theorem Bz{kindOf:Str→Option NameKind}{x:Str}:∀{binds:List (Str×Value)} {m:Qqx},(∀v,(x,v)∉binds)→bindL kindOf binds m x=m x
 | [],_,_=>rfl
 | (n,v)::r,m,h=>by
  unfold bindL
  rw[Bz fun w hw=>h w (aad _ hw)]
  split
  ·have:x≠n:=by rintro rfl;exact h v aat
   simp[this]
  ·rfl
theorem BA{kindOf:Str→Option NameKind}{x:Str}:∀{binds:List (Str×Value)} {m:Qqx},(∀v,(x,v)∉binds)→bindC kindOf binds m x=m x
 | [],_,_=>rfl
 | (n,v)::r,m,h=>by
  unfold bindC
  rw[BA fun w hw=>h w (aad _ hw)]
  split
  ·rfl
  ·have:x≠n:=by rintro rfl;exact h v aat
   simp[this]
theorem BB{kindOf:Str→Option NameKind}{x:Str}{v:Value}:∀{P:List Str} {vs:List Value} {i:Nat} {m:Qqx},P.Nodup→P[i]?=some x→vs[i]?=some v→kindOf x=some .local→
  bindL kindOf (P.zip vs) m x=some v
 | [],_,_,_,_,h,_,_=>by simp at h
 | _::_,[],_,_,_,_,h,_=>by simp at h
 | p::P,w::vs,0,m,nd,h1,h2,hk=>by
  simp at h1 h2;subst h1;subst h2
  show bindL kindOf ((p,w)::P.zip vs) m p=_
  unfold bindL
  rw[Bz fun v hv=>(aaL.mp nd).1 (List.of_mem_zip hv).1,aap hk]
  simp
 | p::P,w::vs,i+1,m,nd,h1,h2,hk=>by
  show bindL kindOf ((p,w)::P.zip vs) m x=_
  unfold bindL
  exact BB (i:=i) (aaL.mp nd).2 (by simpa using h1) (by simpa using h2) hk
theorem BC{kindOf:Str→Option NameKind}{x:Str}{v:Value}:∀{P:List Str} {vs:List Value} {i:Nat} {m:Qqx},P.Nodup→P[i]?=some x→vs[i]?=some v→kindOf x≠some .local→
  bindC kindOf (P.zip vs) m x=some v
 | [],_,_,_,_,h,_,_=>by simp at h
 | _::_,[],_,_,_,_,h,_=>by simp at h
 | p::P,w::vs,0,m,nd,h1,h2,hk=>by
  simp at h1 h2;subst h1;subst h2
  show bindC kindOf ((p,w)::P.zip vs) m p=_
  unfold bindC
  rw[BA fun v hv=>(aaL.mp nd).1 (List.of_mem_zip hv).1,aak hk]
  simp
 | p::P,w::vs,i+1,m,nd,h1,h2,hk=>by
  show bindC kindOf ((p,w)::P.zip vs) m x=_
  unfold bindC
  exact BC (i:=i) (aaL.mp nd).2 (by simpa using h1) (by simpa using h2) hk
noncomputable def start(N:List Str)(vs:List V):St:=vs.map some++List.replicate (N.length-vs.length) none
noncomputable def wD(CX:GQ)(P:Program)(w:World)(K:Qqy)(mg:Qqx)(base:Heap)(N:List Str)(qual:Str)(scope:Scope)(f:Addr)(cd:Value)(A:Around)(outer:List Env)(s:Shared)(H:Hp)(E:XK):Cx where
 prog:=P
 w:=w
 K:=K
 mg:=mg
 base:=base
 A:=A.deeper (envOfC qual scope s.heap.objs.size f cd)
 N:=N
 s₀:=s
 H₀:=H
 env:=envOfC qual scope s.heap.objs.size f cd
 outer:=outer
 stack:=envOfC qual scope s.heap.objs.size f cd::outer
 ex:=[]
 calm:=true
 fn:=fun _=>true
 pn:=[]
 xe:=fun e s'=>wpAny (model P w) (A.deeper (envOfC qual scope s.heap.objs.size f cd)) (leaving (envOfC qual scope s.heap.objs.size f cd) e) (fun _ IH=>CX outer H s E e IH) (fun e' IH=>CX outer H s E e' IH) s'
theorem D8{sc:Scope}{n:Nat}{x:Str}(h:sc.names.lookup x=some .cell):∃c,(cellsFrom n sc.names []).lookup x=some c:=by
 have q:=W.cellsFrom_some sc.names n [] (.inl h)
 exact Option.isSome_iff_exists.mp q
theorem HI{CX:GQ}{P:Program}{w:World}{K:Qqy}{mg:Qqx}{base:Heap}{N ps:List Str}{qual:Str}{scope:Scope}{f:Addr}{cd:Value}{A:Around}{outer:List Env}{s s1:Shared}{H:Hp}{E:XK}{us:List Value}{vs:List V}
  (S:gB N ps scope) (hd:A.handled=none) (e0:FD P w K mg base A outer s H) (hl:vs.length=ps.length) (r:Vals vs us)
  (x:InCallC s s.heap.objs.size (bindL (envOfC qual scope s.heap.objs.size f cd).kindOf (ps.zip us) fun _=>none) (cellsFrom (s.heap.objs.size+1) scope.names []) (bindC (envOfC qual scope s.heap.objs.size f cd).kindOf (ps.zip us) fun _=>none) s1) :
  Inv (wD CX P w K mg base N qual scope f cd A outer s H E) [] (start N vs) H s1:=by
 have qg:ps.length≤N.length:=by have:=aa4 List.length S.pre;rw[aaD] at this;omega
 obtain⟨h1,tk,rfl,hk⟩:=x.done
 have SQ:∀b:Addr,b∉(wD CX P w K mg base N qual scope f cd A outer s H E).ex:=fun b z=>absurd (show b∈([]:List Addr) from z) (by simp)
 refine⟨⟨e0.mod,S.kind,rfl,rfl,ZA _,fun y z c h1 h2=>?_,fun y hy=>?_,fun y c _ h=>?_,fun _=>hd,Around.frames_deeper e0.frames,.inr ⟨rfl,rfl⟩,fun b z=>absurd z (SQ b),e0.bs,e0.LM,fun b _ _=>SQ b,fun b z=>absurd z (SQ b),e0.uU,e0.Ni⟩,
  rfl,e0.bare,Un.kept hk,⟨_,x.toInCall.ns,fun i y v h1 h2 h3=>?_⟩,fun y c h=>⟨_,x.cell y c h⟩,e0.iP.fresh (ZA _),fun y c h=>?_,fun p hp=>absurd (show p∈([]:Qqz) from hp) (by simp),e0.iP.kept hk,?_⟩
 ·exact name_of_addr x.apart (abw h1) (abw h2)
 ·have hy:scope.names.lookup y=some .cell∨scope.names.lookup y=some .free:=hy
  rcases hy with hy|hy
  ·exact D8 hy
  ·exact absurd rfl (S.Ow _ (abw hy))
 ·exact Nat.le_of_lt (x.above y c (abw h))
 ·have hi:i<vs.length:=by
   unfold start at h2
   by_cases hi:i<vs.length
   ·exact hi
   ·rw[aba (by simpa using hi)] at h2
    rw[List.getElem?_replicate] at h2
    split at h2<;>cases h2
  have ha:vs[i]?=some v:=by
   unfold start at h2
   rw[abP (by simpa using hi),aam] at h2
   cases e:vs[i]? with
   | none=>rw[e] at h2;cases h2
   | some a=>rw[e] at h2;cases h2;rfl
  obtain⟨u,hu,rv⟩:=r.get ha
  have hp:ps[i]?=some y:=by
   rw[←S.pre,List.getElem?_take_of_lt (by omega)];exact h1
  have ZR:ps.Nodup:=by rw[←S.pre];exact S.nd.sublist (acd _ _)
  refine⟨u,rv,?_⟩
  rcases S.par y (V_ hp) with k|k
  ·exact .inl ⟨k,BB ZR hp hu k⟩
  ·obtain⟨c,e⟩:=D8 (n:=s.heap.objs.size+1) k
   refine .inr ⟨.inl k,c,e,?_⟩
   have q:=x.cell y c e
   rw[BC ZR hp hu (by show scope.names.lookup y≠_;rw[k];decide)] at q
   exact q
 ·exact e0.iP.fresh (Nat.le_of_lt (x.above y c (abw h)))
 ·unfold start
  show _=N.length
  rw[ZD,Tj,List.length_replicate]
  omega
theorem Np{CX:GQ}{P:Program}{w:World}{K:Qqy}{mg:Qqx}{base:Heap}{k:Nat}{f:Addr}{name qual:Str}{params:Arguments}{body:List Stmt}{scope:Scope}{dV kV doc pm js ct oc:Value}{an od:Option Addr}
  {IV:Array (Option Value)} {N ps:List Str} {sp:Sp} (lk:K.lookup f=some ⟨oc,od,.func (W.fnOf name qual params body scope dV kV doc pm an js ct),IV⟩) (Cg:W.codeIn K js qual=true) (S:gB N ps scope)
  (len:∀vs H Q E,sp vs H Q E→vs.length=ps.length)
  (wk:∀(A:Around)(outer:List Env)(s:Shared)(H:Hp)(vs:List V)(Q:VK)(E:XK),kD k (A.deeper (envOfC qual scope s.heap.objs.size f js))→sp vs H Q E→
   ∃t,Fn (wD CX P w K mg base N qual scope f js A outer s H E) body t∧t {nx:=fun _ H'=>Q .jo H',rt:=Q} (start N vs) H) :
  ip P w K mg base CX (k+1) f (W.fnOf name qual params body scope dV kV doc pm an js ct) ps sp:=by
 refine⟨len,fun A outer s H args us vs Q E hr e0 hb r LC=>?_⟩
 have hl:=len _ _ _ _ LC
 have KX:K.In s.heap:=e0.mod.QG.keeps fun b o e=>(e0.bs b o e).1
 have lim:s.heap.NoLimit:=e0.mod.nolimit.keeps fun b o e=>(e0.bs b o e).1
 have SR:∀y∈ps.zip us,scope.names.lookup y.1=some .local∨(scope.names.lookup y.1=some .cell∧((cellsFrom (s.heap.objs.size+1) scope.names []).lookup y.1).isSome=true):=fun⟨n,v⟩ hy=>by
  rcases S.par n (List.of_mem_zip hy).1 with q|q
  ·exact .inl q
  ·exact .inr ⟨q,W.cellsFrom_some _ _ _ (.inl q)⟩
 refine codeAny_call_function hr.depth (KX _ _ lk) rfl S.co S.gen rfl (W.codeRec_of KX Cg) (hb _ _ _ _ ?_)
 refine wpAny_newFunctionEnv_cells S.kind SR fun env he s1 x=>?_
 subst he
 refine⟨lim.keeps x.toInCall.keep,codeAny_func ?_⟩
 obtain⟨t,ht,hq⟩:=wk A outer s H vs Q E (hr.deeper _) LC
 have I:Inv (wD CX P w K mg base N qual scope f js A outer s H E) [] (start N vs) H s1:=HI S hr.hd e0 hl r x
 refine abt (ht [] s1 (start N vs) H _ I hq) (fun fl s' hs=>?_) fun e s' hs=>hs
 have fin:∀{σ':St} {H':Hp} {v:V} {u:Value},Inv (wD CX P w K mg base N qual scope f js A outer s H E) [] σ' H' s'→RelV v u→Q v H'→CE outer P w H s Q u s':=
  fun{σ' H' v u} J rv q=>⟨v,H',J.os,J.bare,J.base,J.iP,rv,q⟩
 cases fl with
 | ret u=>
  obtain⟨v,σ',H',J,rv,q⟩:=hs
  exact fin J rv q
 | next=>
  obtain⟨σ',H',J,q⟩:=hs
  exact fin (v:=V.jo) (u:=Value.none) J rfl q
 | brk=>
  obtain⟨_,_,_,q⟩:=hs
  exact False.elim q
 | cont=>
  obtain⟨_,_,_,q⟩:=hs
  exact False.elim q
section
variable{X:Cx}{x:Str}{p pos:Pos}{e:Expr}{es:List Expr}{t:TA}{id T:String}{r:List V→Hp→VK→Prop}
def Zx(r:List V→Hp→VK→Prop)(t:TA):TE:=fun σ H Q=>t σ H fun vs H1=>r vs H1 Q
theorem gF(hc:xC X (.builtin id) r)(hg:Gl X x)(hm:X.mg x=none)(hv:bootBuiltins x=some (.builtin id))(ha:PA X (e::es) t)(hn:x≠"__name__":=by decide)(Gx:(x ==("__debug__":Str))=false:=by decide)
  (he:starEach (e::es) X.env=(false,eval e X.env)::starEach es X.env:=by rfl) (qg:(backTo pos (starEach es X.env)).any (·.1)=false:=by rfl):PE X (.Call (.Name x p) (e::es) [] pos) (Zx r t):=by
 intro c_ s σ H Q I h
 refine wpAny_Call_Name_kw (pe I hg hm hv ?_ hn Gx)
 exact PyProof.Rows.callWith_builtin1 (i8 (ha pos c_ s σ H _ I h) fun us s1 ⟨vs,H1,I1,r1,q1⟩=>hc c_ s1 σ H1 vs us Q I1 r1 q1) he qg
theorem BD(hc:xC X (.type T) r)(hg:Gl X x)(hm:X.mg x=none)(hv:bootBuiltins x=some (.type T))(ha:PA X (e::es) t)(hn:x≠"__name__":=by decide)(Gx:(x ==("__debug__":Str))=false:=by decide)
  (he:starEach (e::es) X.env=(false,eval e X.env)::starEach es X.env:=by rfl) (qg:(backTo pos (starEach es X.env)).any (·.1)=false:=by rfl):PE X (.Call (.Name x p) (e::es) [] pos) (Zx r t):=by
 intro c_ s σ H Q I h
 refine wpAny_Call_Name_kw (pe I hg hm hv ?_ hn Gx)
 exact aaW (i8 (ha pos c_ s σ H _ I h) fun us s1 ⟨vs,H1,I1,r1,q1⟩=>hc c_ s1 σ H1 vs us Q I1 r1 q1) he qg
end
end L2
namespace HT
open PySem PyProof.Rows
section
open PySem.SeqAt
open PySem.AutoSeq1 (wpAny_loadPart')
open PySem.MeetsSeq PySem.MeetsSeq2 PySem.MeetsSeq3
end
section
variable{prog:Program}{w:World}{A:Around}{E:Qqq}{s:Shared}
noncomputable def D9(n d:Nat):Option Int→Nat
 | none=>d
 | some v=>if v<0 then(v+(n:Int)).toNat else min v.toNat n
theorem D_(n d:Nat):D9 n d none=d:=rfl
theorem GU(n d k:Nat):D9 n d (some (k:Int))=min k n:=by
 show(if(k:Int)<0 then((k:Int)+(n:Int)).toNat else min (k:Int).toNat n)=min k n
 rw[aak (by omega),abT]
end
end HT
namespace L2
open PySem PySem.Spec PyProof.Rows
abbrev TO:=St→Hp→(Option Int→Hp→Prop)→Prop
def PO(X:Cx)(e:Option Expr)(t:TO):Prop:=
 ∀(c_:Qqz)(s:Shared)(σ:St)(H:Hp)(Q:Option Int→Hp→Prop),Inv X c_ σ H s→t σ H Q→
  wpAny (model X.prog X.w) X.A (evalPart e X.env) (fun u s'=>∃o H',Inv X c_ σ H' s'∧IsPart u o∧Q o H') X.xe s
def LS:TO:=fun _ H Q=>Q none H
def RI(t:TE):TO:=fun σ H Q=>t σ H fun x H1=>∃i,x=.int i∧Q (some i) H1
section
variable{X:Cx}{e:Expr}{te:TE}{lo hi:Option Expr}{tl th:TO}{pos p2:Pos}
theorem oI:PO X none LS:=by
 intro c_ s σ H Q I h
 rw[evalPart_none]
 exact aao ⟨none,H,I,.none,h⟩
theorem oJ(h:PE X e te):PO X (some e) (RI te):=by
 intro c_ s σ H Q I hw
 rw[evalPart_some]
 refine i8 (h c_ s σ H _ I hw) fun u s1 iM=>?_
 obtain⟨x,H1,I1,r1,q1⟩:=iM
 obtain⟨i,rfl,q⟩:=q1
 obtain⟨t,rfl⟩:=r1
 exact⟨some i,H1,I1,.int i t,q⟩
def Zy(X:Cx)(r:V→Option Int→Option Int→Hp→VK→Prop):Prop:=
 ∀(c_:Qqz)(s:Shared)(σ:St)(H:Hp)(x:V)(v vl vu:Value)(lo hi:Option Int)(sl:Addr)(Q:VK),Inv X c_ σ H s→RelV x v→s.heap.IsSliceOf sl vl vu .none→IsPart vl lo→IsPart vu hi→r x lo hi H Q→
  ∃T id,typeLookup (.type T) "__getitem__"=pure (some (.builtin id))∧s.TypeIs v T∧wpAny (model X.prog X.w) X.A (getItem v (.ref sl)) (EP X c_ σ Q) X.xe s
def tSl(r:V→Option Int→Option Int→Hp→VK→Prop)(te:TE)(tl th:TO):TE:=fun σ H Q=>te σ H fun x H1=>tl σ H1 fun l H2=>th σ H2 fun u H3=>r x l u H3 Q
theorem mI{r:V→Option Int→Option Int→Hp→VK→Prop}(hr:Zy X r)(he:PE X e te)(hl:PO X lo tl)(hu:PO X hi th):PE X (.Subscript e (.Slice lo hi none p2) pos) (tSl r te tl th):=by
 intro c_ s σ H Q I h
 refine Subscript_ (i8 (he c_ s σ H _ I h) fun v s1 iM=>?_)
 obtain⟨x,H1,I1,r1,q1⟩:=iM
 refine wpAny_Slice (i8 (hl c_ s1 σ H1 _ I1 q1) fun vl s2 iM=>?_)
 obtain⟨l,H2,I2,pl,q2⟩:=iM
 refine i8 (hu c_ s2 σ H2 _ I2 q2) fun vu s3 IG=>?_
 obtain⟨u,H3,I3,pu,q3⟩:=IG
 rw[evalPart_none]
 refine aao ?_
 have I4:Inv X c_ σ H3 {s3 with heap:=s3.heap.push {cls:=.type "slice",data:=.fields #[vl,vu,.none]}}:=I3.kept (t':=s3.toks) fun b ob q=>aag _ q
 obtain⟨T,id,hT,ht,hg⟩:=hr c_ {s3 with heap:=s3.heap.push {cls:=.type "slice",data:=.fields #[vl,vu,.none]}} σ H3 x v vl vu l u s3.heap.objs.size Q I4 r1 (Heap.IsSliceOf.new ..) pl pu q3
 show wpAny (model X.prog X.w) X.A (subscriptTail e (.Slice lo hi none p2) v (.ref s3.heap.objs.size)) (EP X c_ σ Q) X.xe {s3 with heap:=s3.heap.push {cls:=.type "slice",data:=.fields #[vl,vu,.none]}}
 exact tail_any (ops:=[.ref s3.heap.objs.size,v]) ht hT hg (by with_unfolding_all rfl)
noncomputable def u5(xs:List V)(lo hi:Option Int):List V:=(xs.drop (HT.D9 xs.length 0 lo)).take (HT.D9 xs.length xs.length hi-HT.D9 xs.length 0 lo)
theorem Ea(xs:List V)(lo hi:Option Int):(u5 xs lo hi).length≤xs.length:=by
 unfold u5
 rw[aaD,List.length_drop]
 omega
end
noncomputable def HJ(n:Nat)(i:Int):Option Nat:=if 0≤i then(if i<n then some i.toNat else none) else if -(n:Int)≤i then some (i+n).toNat else none
noncomputable def AZ{α:Type}(xs:List α)(i:Int):Option α:=(HJ xs.length i).bind fun j=>xs[j]?
theorem GV{n:Nat}{i:Int}{j:Nat}(h:HJ n i=some j):seqIndex? i n=some j∧j<n∧-(n:Int)≤i∧i<n:=by
 unfold HJ at h
 by_cases h0:0≤i
 ·rw[aap h0] at h
  by_cases h1:i<n
  ·rw[aap h1] at h
   have e:i.toNat=j:=aau h
   exact⟨by rw[seqIndex_of h0 h1,e],by omega,by omega,h1⟩
  ·rw[aak h1] at h;cases h
 ·rw[aak h0] at h
  by_cases h1:-(n:Int)≤i
  ·rw[aap h1] at h
   have e:(i+n).toNat=j:=aau h
   exact⟨by rw[seqIndex_neg (by omega) h1,e],by omega,h1,by omega⟩
  ·rw[aak h1] at h;cases h
theorem Cr{α:Type}{xs:List α}{i:Int}{v:α}(h:AZ xs i=some v):∃j,seqIndex? i xs.length=some j∧xs[j]?=some v∧j<xs.length∧-(xs.length:Int)≤i∧i<xs.length:=by
 unfold AZ at h
 cases e:HJ xs.length i with
 | none=>rw[e] at h;cases h
 | some j=>
  rw[e] at h
  obtain⟨h1,h2,h3,h4⟩:=GV e
  exact⟨j,h1,h,h2,h3,h4⟩
theorem LU{α:Type}{xs:List α}{j:Nat}{v:α}(h:xs[j]?=some v):AZ xs (j:Int)=some v:=by
 have hj:j<xs.length:=(List.getElem?_eq_some_iff.mp h).1
 have e:HJ xs.length (j:Int)=some j:=by
  unfold HJ
  rw[aap (by omega),aap (by omega)];simp
 unfold AZ;rw[e];exact h
theorem Eb{α:Type}(xs:List α)(v:α):AZ (xs++[v]) (-1)=some v:=by
 have hl:(xs++[v]).length=xs.length+1:=by simp
 have e:HJ (xs++[v]).length (-1)=some xs.length:=by
  unfold HJ
  rw[hl,aak (by decide),aap (by omega)]
  congr 1
  omega
 unfold AZ
 rw[e]
 show(xs++[v])[xs.length]?=some v
 simp
def GW(b:Expr):Prop:=∀o i,subscripted b false o i=operate [o,i] (getItem o i)
def UI(X:Cx)(r:R2):Prop:=
 ∀(value slice:Expr)(c_:Qqz)(s:Shared)(σ:St)(H:Hp)(x y:V)(v u:Value)(Q:VK),Inv X c_ σ H s→RelV x v→RelV y u→r x y H Q→
  subscripted slice false v u=operate [v,u] (getItem v u)→wpAny (model X.prog X.w) X.A (subscriptTail value slice v u) (EP X c_ σ Q) X.xe s
def VT(X:Cx)(id:String)(r:V→List V→Hp→VK→Prop):Prop:=
 ∀(c_:Qqz)(s:Shared)(σ:St)(H:Hp)(x:V)(xs:List V)(v:Value)(us:List Value)(Q:VK),Inv X c_ σ H s→RelV x v→Vals xs us→r x xs H Q→
  wpAny (model X.prog X.w) X.A (call (.builtin id) (v::us)) (EP X c_ σ Q) X.xe s
section
variable{X:Cx}{a b:Expr}{ta tb:TE}{pos:Pos}
theorem jS{r:R2}(hr:UI X r)(ha:PE X a ta)(hb:PE X b tb)(hs:GW b):PE X (.Subscript a b pos) (RB r ta tb):=by
 intro c_ s σ H Q I h
 exact Subscript_ (Om ha hb I h fun v u s2 x y H2 I2 rx ry q=>hr a b c_ s2 σ H2 x y v u Q I2 rx ry q (hs _ _))
noncomputable def RJ(K:Qqy):R2:=fun x y H Q=>∃p xs i v,x=.ref p∧y=.int i∧hE K H p xs∧AZ xs i=some v∧Q v H
noncomputable def VU(K:Qqy):R2:=fun x y H Q=>∃p xs i v,x=.ref p∧y=.int i∧rn K H p xs∧AZ xs i=some v∧Q v H
noncomputable def VV:R2:=fun x y H Q=>∃z i c,x=.str z∧y=.int i∧z.length≤sizeLine∧AZ z.cps.toList i=some c∧Q (.str ⟨#[c]⟩) H
theorem kL:UI X (RJ X.K):=by
 intro value slice c_ s σ H x y v u Q I rx ry h hs
 obtain⟨p,xs,i,z,rfl,rfl,hq,he,q⟩:=h
 cases rx
 obtain⟨t,rfl⟩:=ry
 obtain⟨ib,r,pl,hz⟩:=I.list hq
 obtain⟨j,h1,h2,h3,h4,h5⟩:=Cr he
 obtain⟨w,ew,Br⟩:=r.get h2
 have hl:=r.length
 have hn:=uk
 have fin:EP X c_ σ Q w s:=⟨z,H,I,Br,q⟩
 by_cases h0:0≤i
 ·have hj:i.toNat=j:=by
   rw[seqIndex_of h0 h5] at h1
   exact aau h1
  exact item_listR pl.isList h0 (by omega) (by rw[hj];simpa using ew) fin hs
 ·have hj:(i+(ib.toArray.size:Int)).toNat=j:=by
   rw[seqIndex_neg (by omega) h4] at h1
   rw[aai,←hl]
   exact aau h1
  exact subscriptTail_builtinR (x:=w) pl.isList.typeIs slot_list_getitem.lookup
   (wpAny_getItem_list_neg (Q:=fun r s'=>r=w∧EP X c_ σ Q r s') pl.isList (by omega) (by rw[aai]<;>omega) (by omega) (by rw[hj];simpa using ew) ⟨rfl,fin⟩) hs
theorem nU:UI X (VU X.K):=by
 intro value slice c_ s σ H x y v u Q I rx ry h hs
 obtain⟨p,xs,i,z,rfl,rfl,hq,he,q⟩:=h
 cases rx
 obtain⟨t,rfl⟩:=ry
 obtain⟨ib,r,pl,hz⟩:=I.tuple hq
 obtain⟨j,h1,h2,h3,h4,h5⟩:=Cr he
 obtain⟨w,ew,Br⟩:=r.get h2
 have hl:=r.length
 have hn:=uk
 have fin:EP X c_ σ Q w s:=⟨z,H,I,Br,q⟩
 exact subscriptTail_builtinR (x:=w) pl.typeIs slot_tuple_getitem.lookup
  (getItem_tuple (j:=j) (Q:=fun r s'=>r=w∧EP X c_ σ Q r s') pl (by omega) (by omega) (by rw[aai,←hl];exact h1) (by simpa using ew) ⟨rfl,fin⟩) hs
theorem FF:UI X VV:=by
 intro value slice c_ s σ H x y v u Q I rx ry h hs
 obtain⟨z,i,c,rfl,rfl,hz,he,q⟩:=h
 obtain⟨t,rfl⟩:=rx
 obtain⟨t',rfl⟩:=ry
 obtain⟨j,h1,h2,h3,h4,h5⟩:=Cr he
 have hl:z.cps.toList.length=z.length:=by simp[Str.length]
 rw[hl] at h1 h4 h5
 have hn:=uk
 exact tail_any (typeIs_str s z t) slot_str_getitem.lookup (getItem_str (c:=c) (by
  have e1:decide (i < -(2 ^ 63:Int))=false:=aaf (by omega)
  have e2:decide (i≥2 ^ 63)=false:=aaf (by omega)
  rw[e1,e2,Bool.or_false]) (by rw[h1];simpa using h2) ⟨.str ⟨#[c]⟩,H,I.tok _,⟨_,rfl⟩,q⟩) hs
theorem FG(ib:List Value)(n j:Nat)(u:Value):Obj.mapSeq (·.setIfInBounds j u) {cls:=.type "list",data:=.seq ib.toArray n}={cls:=.type "list",data:=.seq (ib.set j u).toArray n}:=by
 simp[Obj.mapSeq]
theorem Inv.lst{c_:Qqz}{σ:St}{H:Hp}{s:Shared}{p:Addr}{xs:List V}(I:Inv X c_ σ H s)(h:H p=some (.lst xs)) :
  ∃(ib:List Value)(n:Nat),Vals xs ib∧s.heap.get? p=some {cls:=.type "list",data:=.seq ib.toArray n}∧xs.length≤sizeLine:=by
 obtain⟨z,ib,n,r,e⟩:=I.iP p _ h
 exact⟨ib,n,r,e,z⟩
theorem Inv.Ox{c_:Qqz}{σ:St}{H:Hp}{s:Shared}{p:Addr}{xs ys:List V}{ib its':List Value}{n n':Nat}{f:Obj→Obj}(I:Inv X c_ σ H s)(h:H p=some (.lst xs))
  (ho:s.heap.get? p=some {cls:=.type "list",data:=.seq ib.toArray n}) (hf:f {cls:=.type "list",data:=.seq ib.toArray n}={cls:=.type "list",data:=.seq its'.toArray n'}) (r:Vals ys its') (hz:ys.length≤sizeLine) (t:Nat) :
  Inv X c_ σ (upd H p (.lst ys)) {s with heap:=s.heap.update p f,toks:=t}:=by
 have e:(s.heap.update p f).get? p=some {cls:=.type "list",data:=.seq its'.toArray n'}:=by
  rw[aa7 f ho (by rw[hf]<;>rfl),hf]
 refine I.write (x:=p) (e:=p) (by rw[h];trivial) (.inl rfl) (fun b u hb q=>(abI _ _ (abJ hb)).trans q) ⟨_,e⟩ ?_
 exact⟨hz,its',n',r,e⟩
noncomputable def RK:V→V→V→Hp→(Hp→Prop)→Prop:=fun o i v H Q=>∃p xs k j,o=.ref p∧i=.int k∧H p=some (.lst xs)∧HJ xs.length k=some j∧Q (upd H p (.lst (xs.set j v)))
theorem set_list:Rw X RK:=by
 intro c_ s σ H o i v ov iv u Q I ro ri rv h
 obtain⟨p,xs,k,j,rfl,rfl,hp,hj,q⟩:=h
 cases ro
 obtain⟨t,rfl⟩:=ri
 obtain⟨ib,n,r,ho,hz⟩:=I.lst hp
 obtain⟨h1,h2,h3,h4⟩:=GV hj
 have hl:=r.length
 have hn:=uk
 have I':Inv X c_ σ (upd H p (.lst (xs.set j v))) {s with heap:=s.heap.update p (Obj.mapSeq (·.setIfInBounds j u))}:=
  I.Ox hp ho (FG ib n j u) (r.set rv j) (by rw[acj];exact hz) s.toks
 by_cases h0:0≤k
 ·have hk:k.toNat=j:=by
   rw[seqIndex_of h0 h4] at h1
   exact aau h1
  exact W.ki_setAt ho h0 (by omega) (by rw[aai,←hl];exact h4) (by rw[hk];exact⟨_,I',q⟩)
 ·have hk:(k+(ib.toArray.size:Int)).toNat=j:=by
   rw[seqIndex_neg (by omega) h3] at h1
   rw[aai,←hl]
   exact aau h1
  exact W.ki_setBack ho (by omega) (by rw[aai,←hl];exact h3) (by omega) (by rw[hk];exact⟨_,I',q⟩)
theorem Cs(lo hi:Option Int)(n:Nat):(sliceBounds lo hi none n).1=((HT.D9 n 0 lo:Nat):Int)∧(sliceBounds lo hi none n).2.1=((HT.D9 n n hi:Nat):Int)∧(sliceBounds lo hi none n).2.2=1:=by
 refine⟨?_,?_,rfl⟩
 ·cases lo with
  | none=>simp[sliceBounds,HT.D9]
  | some i=>
   simp only [sliceBounds,HT.D9,Option.getD_none,show(1:Int)>0 by decide,if_true]
   by_cases h:i<0
   ·simp only [h,if_true]<;>omega
   ·simp only [h,ab5]<;>omega
 ·cases hi with
  | none=>simp[sliceBounds,HT.D9]
  | some i=>
   simp only [sliceBounds,HT.D9,Option.getD_none,show(1:Int)>0 by decide,if_true]
   by_cases h:i<0
   ·simp only [h,if_true]<;>omega
   ·simp only [h,ab5]<;>omega
theorem A4(ib:List Value)(lo hi:Option Int):slicePick ib.toArray lo hi none=((ib.drop (HT.D9 ib.length 0 lo)).take (HT.D9 ib.length ib.length hi-HT.D9 ib.length 0 lo)).toArray:=by
 obtain⟨h1,h2,h3⟩:=Cs lo hi ib.toArray.size
 unfold slicePick
 rw[h1,h2,h3]
 simp only [sliceRange_one,pick_run,aai]<;>rfl
noncomputable def VW(K:Qqy):V→Option Int→Option Int→Hp→VK→Prop:=fun x lo hi H Q=>∃a xs,x=.ref a∧hE K H a xs∧∀p,H p=none→Q (.ref p) (upd H p (.lst (u5 xs lo hi)))
theorem oK:Zy X (VW X.K):=by
 intro c_ s σ H x v vl vu lo hi sl Q I rx hs pl pu h
 obtain⟨a,xs,rfl,hx,q⟩:=h
 cases rx
 obtain⟨ib,r,ht,hz⟩:=I.list hx
 have hlen:=r.length
 refine⟨"list",_,slot_list_getitem.lookup,ht.isList.typeIs,?_⟩
 refine wpAny_getItem_list_slice ht.isList hs pl pu .none (by simp) ?_ (by rw[aai]<;>omega)
 rw[A4,←hlen]
 refine⟨.ref s.heap.objs.size,_,I.laid (t':=s.toks) (o:=.lst (u5 xs lo hi)) (fun b ob q=>aag _ q) (ZA _) ?_,rfl,q _ (I.iP.fresh (ZA _))⟩
 exact⟨aac (Ea xs lo hi) hz,_,0,(r.drop (HT.D9 xs.length 0 lo)).take (HT.D9 xs.length xs.length hi-HT.D9 xs.length 0 lo),aaC _ rfl⟩
noncomputable def rC:V→Bool
 | .jo=>true
 | .bl _=>true
 | .int _=>true
 | .str _=>true
 | _=>false
noncomputable def QJ:V→V→Bool
 | .jo,.jo=>true
 | .bl a,.bl b=>a ==b
 | .bl a,.int b=>(if a then 1 else 0) ==b
 | .int a,.bl b=>a ==(if b then 1 else 0)
 | .int a,.int b=>a ==b
 | .str a,.str b=>a ==b
 | _,_=>false
theorem Oy{A:Around}{s:Shared}{y x:V}{u v:Value}(ry:RelV y u)(rx:RelV x v)(fy:rC y=true)(fx:rC x=true):SeqAt.EqAt A s u v (QJ y x):=by
 cases y with
 | jo=>
  cases ry
  cases x with
  | jo=>cases rx;exact SeqAt.EqAt.same _
  | bl b=>cases rx;exact SeqAt.EqAt.none_bool b
  | int b=>obtain⟨t,rfl⟩:=rx;exact SeqAt.EqAt.none_int b t
  | str b=>obtain⟨t,rfl⟩:=rx;exact SeqAt.EqAt.none_str b t
  | _=>exact absurd (show false=true from fx) aah
 | bl a=>
  cases ry
  cases x with
  | jo=>cases rx;exact SeqAt.EqAt.bool_none a
  | bl b=>cases rx;exact SeqAt.EqAt.bool_bool a b
  | int b=>obtain⟨t,rfl⟩:=rx;exact SeqAt.EqAt.bool_int a b t
  | str b=>obtain⟨t,rfl⟩:=rx;exact SeqAt.EqAt.bool_str a b t
  | _=>exact absurd (show false=true from fx) aah
 | int a=>
  obtain⟨t',rfl⟩:=ry
  cases x with
  | jo=>cases rx;exact SeqAt.EqAt.int_none a t'
  | bl b=>cases rx;exact SeqAt.EqAt.int_bool a t' b
  | int b=>obtain⟨t,rfl⟩:=rx;exact SeqAt.EqAt.int_int a t' b t
  | str b=>obtain⟨t,rfl⟩:=rx;exact SeqAt.EqAt.int_str a t' b t
  | _=>exact absurd (show false=true from fx) aah
 | str a=>
  obtain⟨t',rfl⟩:=ry
  cases x with
  | jo=>cases rx;exact SeqAt.EqAt.str_none a t'
  | bl b=>cases rx;exact SeqAt.EqAt.str_bool a t' b
  | int b=>obtain⟨t,rfl⟩:=rx;exact SeqAt.EqAt.str_int a t' b t
  | str b=>obtain⟨t,rfl⟩:=rx;exact SeqAt.EqAt.str_str a t' b t
  | _=>exact absurd (show false=true from fx) aah
 | _=>exact absurd (show false=true from fy) aah
theorem gz:xC X (.builtin "len") (fun xs H Q=>∃p ys,xs=[.ref p]∧(hE X.K H p ys∨rn X.K H p ys)∧Q (.int ys.length) H):=by
 intro c_ s σ H xs us Q I r h
 obtain⟨p,ys,rfl,hq,q⟩:=h
 obtain⟨u,rfl,rx⟩:=vals1 r
 cases rx
 have hn:=uk
 rcases hq with hq|hq
 ·obtain⟨ib,r',pl,hz⟩:=I.list hq
  have hlen:=r'.length
  exact Calls.call_len_list pl.isList (by simp only [aai]<;>omega) ⟨.int ys.length,H,I.tok _,⟨s.toks+1,by rw[aai,hlen]⟩,q⟩
 ·obtain⟨ib,r',pl,hz⟩:=I.tuple hq
  have hlen:=r'.length
  exact len_tuple pl (by simp only [aai]<;>omega) ⟨.int ys.length,H,I.tok _,⟨s.toks+1,by rw[aai,hlen]⟩,q⟩
theorem u9:xC X (.builtin "len") (fun xs H Q=>∃z,xs=[.str z]∧z.length≤sizeLine∧Q (.int z.length) H):=by
 intro c_ s σ H xs us Q I r h
 obtain⟨z,rfl,hz,q⟩:=h
 obtain⟨u,rfl,t,rfl⟩:=vals1 r
 have hn:=uk
 exact len_str (by omega) ⟨.int z.length,H,I.tok _,⟨_,rfl⟩,q⟩
theorem Ct:xC X (.type "list") (fun xs H Q=>∃p ys,xs=[.ref p]∧(hE X.K H p ys∨rn X.K H p ys)∧∀l,H l=none→Q (.ref l) (upd H l (.lst ys))):=by
 intro c_ s σ H xs us Q I r h
 obtain⟨p,ys,rfl,hq,q⟩:=h
 obtain⟨u,rfl,rx⟩:=vals1 r
 cases rx
 have fin:∀(ib:List Value),Vals ys ib→ys.length≤sizeLine→∀(h':Heap)(c':Nat),(∀b o',s.heap.get? b=some o'→h'.get? b=some o')→
   h'.get? s.heap.objs.size=some {cls:=.type "list",dict:=none,data:=.seq ib.toArray c',slots:=#[]}→EP X c_ σ Q (.ref s.heap.objs.size) {s with heap:=h'}:=fun ib r' hz h' c' kp e=>
  ⟨.ref s.heap.objs.size,_,I.laid (t':=s.toks) kp (ZA _) (show i9 X.prog X.w _ h' _ (.lst ys) from ⟨hz,ib,c',r',e⟩),rfl,q _ (I.iP.fresh (ZA _))⟩
 rcases hq with hq|hq
 ·obtain⟨ib,r',pl,hz⟩:=I.list hq
  have hlen:=r'.length
  obtain⟨o,ho,hc,n,hd⟩:=pl.isList
  exact call_list_seq p (.inl rfl) ho hc hd (fun h' c' kp e=>fin ib r' hz h' c' kp e) (by simp only [aai]<;>omega)
 ·obtain⟨ib,r',pl,hz⟩:=I.tuple hq
  have hlen:=r'.length
  obtain⟨o,ho,hc,n,hd⟩:=pl
  exact call_list_seq p (.inr rfl) ho hc hd (fun h' c' kp e=>fin ib r' hz h' c' kp e) (by simp only [aai]<;>omega)
def VX(K:Qqy)(T:String)(x:V)(H:Hp):Prop:=match x with
 | .str _=>T="str"
 | .int _=>T="int"
 | .ref p=>(T="list"∧∃xs,hE K H p xs)∨(T="tuple"∧∃o,K.lookup p=some o∧o.cls=.type "tuple"∧o.dict=none)∨
  (T="dict"∧((∃kvs,H p=some (.dK kvs))∨∃kvs,H p=some (.dT kvs)))∨(T="set"∧∃S n,H p=some (.set S n))
 | _=>False
theorem Jn{c_:Qqz}{σ:St}{H:Hp}{s:Shared}{T:String}{x:V}{v:Value}(I:Inv X c_ σ H s)(r:RelV x v)(ty:VX X.K T x H) :
  s.TypeIs v T∧∀a,v=.ref a→∃ob,s.heap.get? a=some ob∧ob.dict=none:=by
 cases x with
 | str z=>
  obtain⟨t,rfl⟩:=r
  cases (show T="str" from ty)
  exact⟨typeIs_str s z t,fun _ e=>nomatch e⟩
 | int i=>
  obtain⟨t,rfl⟩:=r
  cases (show T="int" from ty)
  exact⟨typeIs_int s i t,fun _ e=>nomatch e⟩
 | ref p=>
  cases r
  rcases ty with⟨rfl,xs,hq⟩|⟨rfl,o,hk,hc,hd⟩|⟨rfl,hk⟩|⟨rfl,S,n,hk⟩
  ·obtain⟨ib,_,pl,_⟩:=I.list hq
   refine⟨pl.isList.typeIs,fun a e=>?_⟩
   cases e
   obtain⟨o,n,e,c,hd,_⟩:=pl
   exact⟨o,e,hd⟩
  ·refine⟨⟨o,I.xB p o hk,hc⟩,fun a e=>?_⟩
   cases e
   exact⟨o,I.xB _ o hk,hd⟩
  ·have z:∃o,s.heap.get? p=some o∧o.ExactDict:=by
    rcases hk with⟨kvs,hk⟩|⟨kvs,hk⟩
    ·obtain⟨_,_,_,_,o,_,_,e,ex,_⟩:=I.iP p _ hk
     exact⟨o,e,ex⟩
    ·obtain⟨_,_,_,_,o,_,_,e,ex,_⟩:=I.iP p _ hk
     exact⟨o,e,ex⟩
   obtain⟨o,e,ex⟩:=z
   refine⟨⟨o,e,ex.1⟩,fun a e2=>?_⟩
   cases e2
   exact⟨o,e,ex.2.1⟩
  ·obtain⟨o,_,_,_,e,ex,_⟩:=I.iP p _ hk
   refine⟨⟨o,e,ex.1⟩,fun a e2=>?_⟩
   cases e2
   exact⟨o,e,ex.2.1⟩
 | _=>exact False.elim ty
def VY(K:Qqy)(T:String)(r:V→List V→Hp→VK→Prop)(to:TE):TE:=fun σ H Q=>to σ H fun x H1=>VX K T x H1∧r x [] H1 Q
def tBM(K:Qqy)(T:String)(r:V→List V→Hp→VK→Prop)(to:TE)(t:TA):TE:=fun σ H Q=>to σ H fun x H1=>VX K T x H1∧t σ H1 fun xs H2=>r x xs H2 Q
variable{o e:Expr}{es:List Expr}{to:TE}{t:TA}{name:Str}{apos kY:Pos}{T id:String}{r:V→List V→Hp→VK→Prop}
theorem Oz(pa:PlainAttrs T)(slot:Slot T name id)(SS:typeOf (.builtin id)=pure (.type "method_descriptor"))(hm:VT X id r)(ho:PE X o to)
  (K7:attributeBase o name X.env (eval o X.env)=eval o X.env:=by rfl) (K8:(apos.endLine ==kY.line)=true:=by rfl):PE X (.Call (.Attribute o name apos) [] [] kY) (VY X.K T r to):=by
 intro c_ s σ H Q I h
 refine wpAny_Call_method0_late K7 K8 (i8 (ho c_ s σ H _ I h) fun v s1 iM=>?_)
 obtain⟨x,H1,I1,r1,ty,q1⟩:=iM
 obtain⟨h1,h2⟩:=Jn I1 r1 ty
 exact⟨T,id,pa,slot,SS,h1,h2,abe rfl (PySem.evalArgs_none (hm c_ s1 σ H1 x [] v [] Q I1 r1 .nil q1))⟩
theorem qR(pa:PlainAttrs T)(slot:Slot T name id)(SS:typeOf (.builtin id)=pure (.type "method_descriptor"))(hm:VT X id r)(ho:PE X o to)(ha:PA X (e::es) t)
  (K7:attributeBase o name X.env (eval o X.env)=eval o X.env:=by rfl)
  (Wz:((backTo kY (starEach (e::es) X.env)).all (fun x=>!x.1)&&(backToKw kY (keywordEach [] X.env)).all (fun x=>x.1.isSome)
   &&decide ((e::es).length+([]:List Keyword).length+(if([]:List Keyword).isEmpty then 0 else 1)<30))=true:=by rfl)
  (K8:(apos.endLine ==kY.line)=true:=by rfl) (hs:starEach (e::es) X.env=(false,eval e X.env)::starEach es X.env:=by rfl) (P4:(backTo kY (starEach es X.env)).any (·.1)=false:=by rfl) :
  PE X (.Call (.Attribute o name apos) (e::es) [] kY) (tBM X.K T r to t):=by
 intro c_ s σ H Q I h
 refine wpAny_Call_method_late K7 Wz K8 rfl (i8 (ho c_ s σ H _ I h) fun v s1 iM=>?_)
 obtain⟨x,H1,I1,r1,ty,q1⟩:=iM
 obtain⟨h1,h2⟩:=Jn I1 r1 ty
 refine⟨T,id,pa,slot,SS,h1,h2,?_⟩
 have hA:=ha kY c_ s1 σ H1 _ I1 q1
 rw[hs] at hA ⊢
 refine abe (by show(false||(backTo kY (starEach es X.env)).any (·.1))=false;rw[P4]<;>rfl) (abo ?_)
 exact i8 hA fun us s2 ⟨vs,H2,I2,r2,q2⟩=>hm c_ s2 σ H2 x vs v us Q I2 r1 r2 q2
end
def VZ(X:Cx)(id:String)(r:V→List V→Hp→VK→Prop):Prop:=
 ∀(c_:Qqz)(s:Shared)(σ:St)(H:Hp)(x:V)(xs:List V)(v:Value)(us:List Value)(Q:VK),Inv X c_ σ H s→RelV x v→Vals xs us→r x xs H Q→
  wpAny (model X.prog X.w) X.A (call (.builtin id) (v::us)) (EP X c_ σ Q) X.xe s
theorem Vals.one:∀{x:V} {us:List Value},Vals [x] us→∃u,us=[u]∧RelV x u
 | _,_,.cons r .nil=>⟨_,rfl,r⟩
theorem Vals.zero:∀{us:List Value},Vals [] us→us=[]
 | _,.nil=>rfl
theorem Vals.dropLast{xs:List V}{us:List Value}(h:Vals xs us):Vals xs.dropLast us.dropLast:=by
 induction h with
 | nil=>exact .nil
 | cons r t ih=>
  cases t with
  | nil=>exact .nil
  | cons q t'=>exact .cons r ih
theorem Vals.rep{xs:List V}{us:List Value}(h:Vals xs us):∀k:Nat,Vals (List.replicate k xs).flatten (List.replicate k us).flatten
 | 0=>.nil
 | k+1=>by
  rw[aa8,aa8,abU,abU]
  exact Vals.append h (Vals.rep h k)
theorem FH{α:Type}(l:List α):l.eraseIdx (l.length-1)=l.dropLast:=by
 induction l with
 | nil=>rfl
 | cons a r ih=>
  cases r with
  | nil=>rfl
  | cons b r=>
   have e:(a::b::r).length-1=((b::r).length-1)+1:=by
    have h1:(a::b::r).length=r.length+2:=rfl
    have h2:(b::r).length=r.length+1:=rfl
    omega
   rw[e,List.eraseIdx_cons_succ,ih]
   all_goals rfl
theorem foldl_rep(ib:List Value):∀(k:Nat)(acc:List Value),
  List.foldl (fun x1 x2=>x1++x2) acc.toArray (List.replicate k ib.toArray)=(acc++(List.replicate k ib).flatten).toArray
 | 0,acc=>by simp
 | k+1,acc=>by
  have e:acc.toArray++ib.toArray=(acc++ib).toArray:=by simp
  have e2:(acc++ib)++(List.replicate k ib).flatten=acc++(List.replicate (k+1) ib).flatten:=by
   rw[aa8,abU,aaw]
  rw[←e2,←foldl_rep ib k (acc++ib),←e,aa8,List.foldl_cons]
section
variable{X:Cx}{c_:Qqz}{σ:St}{H:Hp}{s:Shared}{l b:Addr}{xs ys zs:List V}
theorem Inv.OA{ib its':List Value}{n:Nat}{f:Array Value→Array Value}{t':Nat}(I:Inv X c_ σ H s)(hH:H l=some (.lst xs))
  (e:s.heap.get? l=some {cls:=.type "list",data:=.seq ib.toArray n}) (hf:f ib.toArray=its'.toArray) (hv:Vals ys its') (hz:ys.length≤sizeLine) :
  Inv X c_ σ (upd H l (.lst ys)) {s with heap:=s.heap.update l (Obj.mapSeq f),toks:=t'}:=by
 have q:=PySem.IsL.update e f
 rw[hf] at q
 refine I.write (x:=l) (e:=l) (by rw[hH];exact trivial) (.inl rfl) (fun b' u hb hu=>(abI s.heap (Obj.mapSeq f) (abJ hb)).trans hu) ⟨_,q⟩ ?_
 exact⟨hz,its',_,hv,q⟩
theorem Inv.LV{ib:List Value}{t':Nat}(I:Inv X c_ σ H s)(hv:Vals ys ib)(hz:ys.length≤sizeLine) :
  Inv X c_ σ (upd H s.heap.objs.size (.lst ys)) {s with heap:=s.heap.push {cls:=.type "list",data:=.seq ib.toArray},toks:=t'}:=
 I.laid (fun _ _ q=>aag _ q) (ZA _) ⟨hz,ib,0,hv,aaC _ rfl⟩
theorem Inv.fresh(I:Inv X c_ σ H s):H s.heap.objs.size=none:=I.iP.fresh (ZA _)
theorem Inv.FJ(I:Inv X c_ σ H s)(hH:H l=some (.lst xs)):xs.length≤sizeLine∧∃(ib:List Value)(n:Nat),Vals xs ib∧xs.length=ib.length∧s.heap.get? l=some {cls:=.type "list",data:=.seq ib.toArray n}:=by
 obtain⟨z,ib,n,r,e⟩:=I.iP l _ hH
 exact⟨z,ib,n,r,r.length,e⟩
theorem Ec{n:Nat}(h:n≤sizeLine):Builtin.List.listTooLong n=false:=by
 unfold Builtin.List.listTooLong
 exact aaf (by omega)
end
section
variable{X:Cx}
noncomputable def LW:V→List V→Hp→VK→Prop:=fun x vs H Q=>∃l xs y,x=.ref l∧vs=[y]∧H l=some (.lst xs)∧xs.length<sizeLine∧Q .jo (upd H l (.lst (xs++[y])))
theorem kO:VZ X "list.append" LW:=by
 intro c_ s σ H x vs v us Q I rx rv h
 obtain⟨l,xs,y,rfl,rfl,hH,hz,q⟩:=h
 cases rx
 obtain⟨u,rfl,ru⟩:=rv.one
 obtain⟨z,ib,n,r,hl,e⟩:=I.FJ hH
 refine call_meets F.slot_list_append ⟨_,e,rfl⟩ F.entry_list_append (F.args_list_append_2 _ _) (PySem.list_append l ib.toArray n u (by rw[aai];omega)) ⟨e,?_⟩
 refine⟨.jo,_,I.OA (its':=ib++[u]) hH e (by simp) (r.append (.cons ru .nil)) ?_,rfl,q⟩
 rw[ZD,List.length_singleton]
 omega
noncomputable def LX:V→List V→Hp→VK→Prop:=fun x vs H Q=>∃l b xs zs,x=.ref l∧vs=[.ref b]∧H l=some (.lst xs)∧H b=some (.lst zs)∧xs.length+zs.length≤sizeLine∧Q .jo (upd H l (.lst (xs++zs)))
theorem BE:VZ X "list.extend" LX:=by
 intro c_ s σ H x vs v us Q I rx rv h
 obtain⟨l,b,xs,zs,rfl,rfl,hH,hB,hz,q⟩:=h
 cases rx
 obtain⟨u,rfl,ru⟩:=rv.one
 cases ru
 obtain⟨z,ib,n,r,hl,e⟩:=I.FJ hH
 obtain⟨z2,l6,n2,r2,K9,e2⟩:=I.FJ hB
 have hsz:ib.toArray.size+l6.toArray.size≤sizeLine:=by rw[aai,aai];omega
 have K_:¬(!ib.toArray.isEmpty&&Builtin.List.listTooLong (ib.toArray.size+l6.toArray.size))=true:=by
  rw[Ec hsz,Bool.and_false]
  exact aah
 refine call_meets F.slot_list_extend ⟨_,e,rfl⟩ F.entry_list_extend (F.args_list_extend_2 _ _)
  (AutoSeq1.list_extend_list_list_0 l ib.toArray n b l6.toArray n2 K_ (by rw[aai];omega) (by omega)) ⟨e,e2,?_⟩
 refine⟨.jo,_,I.OA (its':=ib++l6) hH e (by simp) (r.append r2) ?_,rfl,q⟩
 rw[ZD]
 omega
noncomputable def V0:V→List V→Hp→VK→Prop:=fun x vs H Q=>∃l xs y,x=.ref l∧vs=[]∧H l=some (.lst xs)∧xs[xs.length-1]?=some y∧Q y (upd H l (.lst xs.dropLast))
theorem OB:VZ X "list.pop" V0:=by
 intro c_ s σ H x vs v us Q I rx rv h
 obtain⟨l,xs,y,rfl,rfl,hH,hy,q⟩:=h
 cases rx
 have hus:=rv.zero
 subst hus
 obtain⟨z,ib,n,r,hl,e⟩:=I.FJ hH
 obtain⟨u,hu,ru⟩:=r.get hy
 have MX:ib.toArray[ib.toArray.size-1]?=some u:=by
  show ib.toArray[ib.length-1]?=some u
  rw[←aa9,←hl]
  exact hu
 refine call_meets F.slot_list_pop ⟨_,e,rfl⟩ F.entry_list_pop (F.args_list_pop_1 _) (MeetsSeq.list_pop_last l ib.toArray n u MX (by rw[aai];omega)) ⟨e,?_⟩
 refine⟨y,_,I.OA (its':=ib.dropLast) hH e ?_ r.dropLast ?_,ru,q⟩
 ·show ib.toArray.eraseIdxIfInBounds (ib.toArray.size-1)=ib.dropLast.toArray
  rw[aai,List.eraseIdxIfInBounds_toArray,FH]
 ·rw[List.length_dropLast]
  omega
noncomputable def V1:R2:=fun x y H Q=>∃l b xs zs,x=.ref l∧y=.ref b∧H l=some (.lst xs)∧H b=some (.lst zs)∧xs.length+zs.length≤sizeLine∧∀p,H p=none→Q (.ref p) (upd H p (.lst (xs++zs)))
theorem mW:yG X (binaryOp .Add) V1:=by
 intro c_ s σ H x y v u Q I rx ry h
 obtain⟨l,b,xs,zs,rfl,rfl,hH,hB,hz,q⟩:=h
 cases rx
 cases ry
 obtain⟨z,ib,n,r,hl,e⟩:=I.FJ hH
 obtain⟨z2,l6,n2,r2,K9,e2⟩:=I.FJ hB
 refine PySem.P.add_list e e2 ?_ (by rw[aai,aai];omega)
 have ea:ib.toArray++l6.toArray=(ib++l6).toArray:=by simp
 rw[ea]
 exact⟨.ref _,_,I.LV (t':=s.toks) (r.append r2) (by rw[ZD];omega),rfl,q _ I.fresh⟩
noncomputable def V2:R2:=fun x y H Q=>∃l k xs,x=.ref l∧y=.int k∧H l=some (.lst xs)∧-(2 ^ 63)≤k∧k<2 ^ 63∧xs.length*k.toNat≤sizeLine∧
 ∀p,H p=none→Q (.ref p) (upd H p (.lst (List.replicate k.toNat xs).flatten))
theorem len_rep{α:Type}(xs:List α)(k:Nat):(List.replicate k xs).flatten.length=k*xs.length:=by
 induction k with
 | zero=>simp
 | succ k ih=>rw[aa8,abU,ZD,ih,Nat.succ_mul,Nat.add_comm]
theorem FK:yG X (binaryOp .Mult) V2:=by
 intro c_ s σ H x y v u Q I rx ry h
 obtain⟨l,k,xs,rfl,rfl,hH,h1,h2,hz,q⟩:=h
 cases rx
 obtain⟨t,rfl⟩:=ry
 obtain⟨z,ib,n,r,hl,e⟩:=I.FJ hH
 have hlen:ib.toArray.size*k.toNat≤sizeLine:=by rw[aai,←hl];exact hz
 have WA:¬ib.toArray.size*k.toNat>(2 ^ 63-1)/8:=by
  have:(sizeLine:Nat)≤(2 ^ 63-1)/8:=by decide
  omega
 have WB:¬(!Builtin.List.listFitsIndex k)=true:=by
  rw[fitsIndex_both h1 h2]
  exact aah
 have K_:¬Builtin.List.listTooLong (ib.toArray.size*k.toNat)=true:=by
  rw[Ec hlen]
  exact aah
 have WC:List.foldl (fun x1 x2=>x1++x2) #[] (List.replicate (if ib.toArray.isEmpty=true then 0 else k.toNat) ib.toArray)=(List.replicate k.toNat ib).flatten.toArray:=by
  have f0:∀m:Nat,List.foldl (fun x1 x2=>x1++x2) #[] (List.replicate m ib.toArray)=(List.replicate m ib).flatten.toArray:=fun m=>by
   have:=foldl_rep ib m []
   rw[List.nil_append] at this
   exact this
  rw[f0]
  cases ib with
  | nil=>simp
  | cons a r'=>rw[aak (by simp)]
 refine wpAny_binaryOp_repeat_ref (T:="list") (U:="int") (by decide) ⟨_,e,rfl⟩ (fun s'=>typeIs_int s' k t) noFill_list_mul F.fills_int_mul F.slot_int_rmul repeat_list F.slot_int_index.lookup
  (call_meets F.slot_int_rmul (typeIs_int s k t) F.entry_int_rmul (F.args_int_rmul_2 _ _) (int___rmul___int_list k t l ib.toArray n)
   ⟨e,rfl,⟨_,e,rfl⟩,call_meets F.slot_list_mul ⟨_,e,rfl⟩ F.entry_list_mul (F.args_list_mul_2 _ _) (AutoListH.list___mul___list_int_3 l ib.toArray n k t WB WA K_) ⟨e,?_⟩⟩)
 rw[WC]
 exact⟨.ref _,_,I.LV (t':=s.toks) (r.rep k.toNat) (by rw[len_rep,Nat.mul_comm];exact hz),rfl,q _ I.fresh⟩
end
section
variable{prog:Program}{w:World}{A:Around}{E:Qqq}{s:Shared}
end
section
variable{X:Cx}
end
section
variable{κ:Type}[DecidableEq κ]
noncomputable def iR(kvs:List (κ×V))(k:κ):Option V:=(kvs.find? fun kv=>decide (kv.1=k)).map (·.2)
noncomputable def putK(kvs:List (κ×V))(k:κ)(v:V):List (κ×V):=
 if(kvs.any fun kv=>decide (kv.1=k))=true then kvs.map (fun kv=>if kv.1=k then(kv.1,v) else kv) else kvs++[(k,v)]
noncomputable def jT(kvs:List (κ×V))(k:κ):List (κ×V):=kvs.filter fun kv=>decide (kv.1≠k)
theorem jj{p:κ×V}{r:List (κ×V)}{k:κ}(e:p.1=k):iR (p::r) k=some p.2:=by simp[iR,abH,e]
theorem je{p:κ×V}{r:List (κ×V)}{k:κ}(e:¬p.1=k):iR (p::r) k=iR r k:=by simp[iR,abH,e]
theorem rD(k:κ):∀kvs:List (κ×V),(kvs.any fun kv=>decide (kv.1=k))=(iR kvs k).isSome
 | []=>rfl
 | p::r=>by
  rw[List.any_cons]
  by_cases e:p.1=k
  ·simp only [jj e,ZF e,Bool.true_or,Option.isSome_some]
  ·rw[je e,aaf e,Bool.false_or];exact rD k r
theorem Ed(k j:κ)(y:V):∀kvs:List (κ×V),iR (kvs.map fun kv=>if kv.1=k then(kv.1,y) else kv) j=(iR kvs j).map fun x=>if j=k then y else x
 | []=>rfl
 | p::r=>by
  have ih:=Ed k j y r
  rw[aav]
  by_cases h:p.1=k
  ·rw[aap h]
   by_cases e:p.1=j
   ·rw[jj (p:=(p.1,y)) e,jj e,ab8,aap (e.symm.trans h)]
   ·rw[je (p:=(p.1,y)) e,je e,ih]
  ·rw[aak h]
   by_cases e:p.1=j
   ·rw[jj (p:=p) e,jj e,ab8,aak (fun z=>h (e.trans z))]
   ·rw[je (p:=p) e,je e,ih]
theorem BF(k j:κ)(y:V):∀kvs:List (κ×V),iR kvs k=none→iR (kvs++[(k,y)]) j=if j=k then some y else iR kvs j
 | [],_=>by
  by_cases e:k=j
  ·rw[aap e.symm];exact jj (p:=(k,y)) e
  ·rw[aak (fun z=>e z.symm)];exact je (p:=(k,y)) e
 | p::r,hn=>by
  rw[List.cons_append]
  have hk:¬p.1=k:=fun z=>by rw[jj z] at hn;cases hn
  rw[je hk] at hn
  have ih:=BF k j y r hn
  by_cases e:p.1=j
  ·rw[jj e,jj e,aak (fun z=>hk (e.trans z))]
  ·rw[je e,je e,ih]
theorem j8(kvs:List (κ×V))(k j:κ)(y:V):iR (putK kvs k y) j=if j=k then some y else iR kvs j:=by
 unfold putK
 by_cases a:(kvs.any fun kv=>decide (kv.1=k))=true
 ·rw[aap a,Ed]
  rw[rD] at a
  by_cases e:j=k
  ·obtain⟨x,hx⟩:=Option.isSome_iff_exists.mp a
   rw[aap e,e,hx,ab8,aap rfl]
  ·rw[aak e]
   cases iR kvs j with
   | none=>rfl
   | some x=>rw[ab8,aak e]
 ·rw[aak a]
  refine BF k j y kvs ?_
  rw[rD] at a
  cases q:iR kvs k with
  | none=>rfl
  | some x=>rw[q] at a;exact(a rfl).elim
theorem jq(kvs:List (κ×V))(k:κ)(v:V):(putK kvs k v).length≤kvs.length+1:=by
 unfold putK
 split
 ·rw[Tj];omega
 ·rw[ZD,aae,List.length_nil];omega
theorem Ee{kvs:List (κ×V)}{k:κ}(v:V)(h:iR kvs k=none):putK kvs k v=kvs++[(k,v)]:=by
 unfold putK
 rw[rD,h]
 exact aak (by decide)
theorem pI.pL{o:Option V}{u:Option Value}(r:pI o u):o.isSome=u.isSome:=by
 cases o with
 | none=>cases u with
  | none=>rfl
  | some _=>exact(show False from r).elim
 | some _=>cases u with
  | none=>exact(show False from r).elim
  | some _=>rfl
theorem pI.getD{o:Option V}{u:Option Value}{d:V}{d':Value}(r:pI o u)(rd:RelV d d'):RelV (o.getD d) (u.getD d'):=by
 cases o with
 | none=>cases u with
  | none=>exact rd
  | some _=>exact(show False from r).elim
 | some _=>cases u with
  | none=>exact(show False from r).elim
  | some _=>exact r
theorem KV.val{kvs:List (κ×V)}{vs:List (κ×Value)}(r:KV kvs vs)(k:κ):pI (iR kvs k) (valueAt vs k):=by
 unfold KV at r
 induction r with
 | nil=>exact True.intro
 | @cons p q ps qs h t ih=>
  obtain⟨h1,h2⟩:=h
  by_cases e:p.1=k
  ·have e':q.1=k:=h1.symm.trans e
   have b:valueAt (q::qs) k=some q.2:=by simp[valueAt,abH,e']
   rw[jj e,b];exact h2
  ·have e':¬q.1=k:=fun z=>e (h1.trans z)
   have b:valueAt (q::qs) k=valueAt qs k:=by simp[valueAt,abH,e']
   rw[je e,b];exact ih
theorem KV.any{kvs:List (κ×V)}{vs:List (κ×Value)}(r:KV kvs vs)(k:κ):(kvs.any fun kv=>decide (kv.1=k))=vs.any fun kv=>decide (kv.1=k):=by
 unfold KV at r
 induction r with
 | nil=>rfl
 | cons h t ih=>rw[List.any_cons,List.any_cons,ih,h.1]
theorem KV.OC{kvs:List (κ×V)}{vs:List (κ×Value)}(r:KV kvs vs)(k:κ){y:V}{u:Value}(ry:RelV y u) :
  KV (kvs.map fun kv=>if kv.1=k then(kv.1,y) else kv) (vs.map fun kv=>if kv.1=k then(kv.1,u) else kv):=by
 unfold KV at r ⊢
 induction r with
 | nil=>exact .nil
 | @cons p q ps qs h t ih=>
  rw[aav,aav]
  refine .cons ?_ ih
  obtain⟨h1,h2⟩:=h
  by_cases e:p.1=k
  ·rw[aap e,aap (h1.symm.trans e)];exact⟨h1,ry⟩
  ·rw[aak e,aak (fun z=>e (h1.trans z))];exact⟨h1,h2⟩
theorem KV.put{kvs:List (κ×V)}{vs:List (κ×Value)}(r:KV kvs vs)(k:κ){y:V}{u:Value}(ry:RelV y u):KV (putK kvs k y) (stored vs k u):=by
 unfold putK stored
 rw[r.any k]
 by_cases e:(vs.any fun kv=>decide (kv.1=k))=true
 ·rw[aap e,aap e];exact r.OC k ry
 ·rw[aak e,aak e];exact Paired.snoc r ⟨rfl,ry⟩
theorem KV.drop{kvs:List (κ×V)}{vs:List (κ×Value)}(r:KV kvs vs)(k:κ):KV (jT kvs k) (without vs k):=by
 unfold KV at r ⊢
 unfold jT without
 induction r with
 | nil=>exact .nil
 | @cons p q ps qs h t ih=>
  obtain⟨h1,h2⟩:=h
  rw[abA,abA]
  by_cases e:p.1=k
  ·have a:¬decide (p.1≠k)=true:=by simp[e]
   have b:¬decide (q.1≠k)=true:=by simp[h1.symm.trans e]
   rw[aak a,aak b];exact ih
  ·have e':¬q.1=k:=fun z=>e (h1.trans z)
   have a:decide (p.1≠k)=true:=by simp[e]
   have b:decide (q.1≠k)=true:=by simp[e']
   rw[aap a,aap b];exact .cons ⟨h1,h2⟩ ih
theorem KV.length{kvs:List (κ×V)}{vs:List (κ×Value)}(r:KV kvs vs):kvs.length=vs.length:=aaq r
theorem Ef(kvs:List (κ×V))(k:κ):(jT kvs k).length≤kvs.length:=aaN _ _
end
theorem zr{P:Program}{w:World}{k:Key}{u:Value}(r:RelV (kV k) u):(jf P w).is k u=true:=by
 cases k with
 | inl i=>obtain⟨t,e⟩:=(show ∃t,u=Value.int i t from r);subst e;exact DS P w i t
 | inr x=>obtain⟨t,e⟩:=(show ∃t,u=Value.str x t from r);subst e;exact DT P w x t
theorem BG{P:Program}{w:World}:∀{ks:List Key} {us:List Value},Vals (ks.map kV) us→ItemsAre (jf P w) ks us
 | [],_,r=>by rw[List.map_nil] at r;cases r;exact .nil
 | k::ks,_,r=>by
  rw[aav] at r
  cases r with
  | cons h t=>exact .cons (zr h) (BG t)
abbrev KT(H:Hp):List (List Key×V)→List (List Key×Addr×Value)→Prop:=Paired fun p q=>p.1=q.1∧H q.2.1=some (.tup (p.1.map kV))∧RelV p.2 q.2.2
theorem KT.val{H:Hp}{kvs:List (List Key×V)}{xs:List (List Key×Addr×Value)}(r:KT H kvs xs)(k:List Key):pI (iR kvs k) ((atKey xs k).map (·.2)):=by
 induction r with
 | nil=>exact True.intro
 | @cons p q ps qs h t ih=>
  obtain⟨h1,_,h2⟩:=h
  by_cases e:p.1=k
  ·have e':q.1=k:=h1.symm.trans e
   have b:atKey (q::qs) k=some q.2:=by simp[atKey,abH,e']
   rw[jj e,b];exact h2
  ·have e':¬q.1=k:=fun z=>e (h1.trans z)
   have b:atKey (q::qs) k=atKey qs k:=by simp[atKey,abH,e']
   rw[je e,b];exact ih
theorem KT.OC{H:Hp}{kvs:List (List Key×V)}{xs:List (List Key×Addr×Value)}(r:KT H kvs xs)(k:List Key){y:V}{u:Value}(ry:RelV y u) :
  KT H (kvs.map fun kv=>if kv.1=k then(kv.1,y) else kv) (xs.map (putAt k u)):=by
 induction r with
 | nil=>exact .nil
 | @cons p q ps qs h t ih=>
  rw[aav,aav]
  refine .cons ?_ ih
  obtain⟨h1,h2,h3⟩:=h
  unfold putAt
  by_cases e:p.1=k
  ·rw[aap e,aap (h1.symm.trans e)];exact⟨h1,h2,ry⟩
  ·rw[aak e,aak (fun z=>e (h1.trans z))];exact⟨h1,h2,h3⟩
theorem KT.put{H:Hp}{kvs:List (List Key×V)}{xs:List (List Key×Addr×Value)}(r:KT H kvs xs)(k:List Key){b:Addr}{y:V}{u:Value}(hb:H b=some (.tup (k.map kV)))(ry:RelV y u) :
  KT H (putK kvs k y) (storedH xs k b u):=by
 have e:(kvs.any fun kv=>decide (kv.1=k))=(atKey xs k).isSome:=by
  rw[rD,(r.val k).pL,Option.isSome_map]
 unfold putK storedH
 rw[e]
 by_cases q:(atKey xs k).isSome=true
 ·rw[aap q,aap q];exact r.OC k ry
 ·rw[aak q,aak q];exact Paired.snoc r ⟨rfl,hb,ry⟩
theorem KT.keeps{H H':Hp}{kvs:List (List Key×V)}{xs:List (List Key×Addr×Value)}(r:KT H kvs xs)(ht:∀b ys,H b=some (.tup ys)→H' b=some (.tup ys)):KT H' kvs xs:=
 Paired.jZ r fun _ _ z=>⟨z.1,ht _ _ z.2.1,z.2.2⟩
section
variable{P:Program}{w:World}{H:Hp}{h:Heap}{a:Addr}
theorem Nq{u:HO}(ok:rh P w H h)(e:Rd H a u):i9 P w H h a u:=e.ok ok
theorem xG{kvs:List (Key×V)}(ok:rh P w H h)(e:Rd H a (.dK kvs)):kvs.length≤sizeLine∧(a ==sysModules)=false∧∃vs,KV kvs vs∧h.DictOf (jf P w) a vs:=
 show i9 P w H h a (.dK kvs) from Nq ok e
theorem Jo{kvs:List (Key×V)}(ok:rh P w H h)(e:H a=some (.dK kvs)):kvs.length≤sizeLine∧(a ==sysModules)=false∧∃vs,KV kvs vs∧h.DictOf (jf P w) a vs:=xG ok (.inl e)
theorem um{ks:List Key}(ok:rh P w H h)(e:H a=some (.tup (ks.map kV))):(tupleKind (jf P w)).is h ks a:=by
 obtain⟨_,ib,r,o,h1,h2,n,h3⟩:=(show i9 P w H h a (.tup (ks.map kV)) from ok a _ e)
 exact⟨o,ib.toArray,n,h1,h2,h3,by simpa using BG r⟩
theorem xH{kvs:List (List Key×V)}(ok:rh P w H h)(e:Rd H a (.dT kvs)):kvs.length≤sizeLine∧(a ==sysModules)=false∧
  ∃xs,KT H kvs xs∧h.DictOfH (tupleKind (jf P w)) a xs:=by
 obtain⟨z,y,xs,r,o,es,ep,h1,h2,h3,h4,h5⟩:=(show i9 P w H h a (.dT kvs) from Nq ok e)
 refine⟨z,y,xs,r,o,es,ep,h1,h2,h3,h4,fun x hx=>?_,h5⟩
 have all:∀{l:List (List Key×V)} {m:List (List Key×Addr×Value)},KT H l m→∀x∈m,(tupleKind (jf P w)).is h x.1 x.2.1:=by
  intro l m q
  induction q with
  | nil=>intro x hx;exact nomatch hx
  | @cons p q ps qs hq t ih=>
   intro x hx
   rcases W3.mp hx with e|hx
   ·subst e
    exact um ok (by rw[←hq.1];exact hq.2.1)
   ·exact ih x hx
 exact all r x hx
theorem Jp{kvs:List (List Key×V)}(ok:rh P w H h)(e:H a=some (.dT kvs)):kvs.length≤sizeLine∧(a ==sysModules)=false∧
 ∃xs,KT H kvs xs∧h.DictOfH (tupleKind (jf P w)) a xs:=xH ok (.inl e)
end
def ja(H:Hp)(a:Addr)(y:V)(r:Option V):Prop:=
 (∃kvs k,Rd H a (.dK kvs)∧y=kV k∧r=iR kvs k)∨∃kvs k b,Rd H a (.dT kvs)∧y=.ref b∧H b=some (.tup (k.map kV))∧r=iR kvs k
def nK(H:Hp)(a:Addr)(y v:V)(H':Hp):Prop:=
 (∃kvs k,H a=some (.dK kvs)∧y=kV k∧kvs.length<sizeLine∧H'=upd H a (.dK (putK kvs k v)))∨
 ∃kvs k b,H a=some (.dT kvs)∧y=.ref b∧H b=some (.tup (k.map kV))∧kvs.length<sizeLine∧H'=upd H a (.dT (putK kvs k v))
theorem ja.k{H:Hp}{a:Addr}{kvs:List (Key×V)}{k:Key}(e:H a=some (.dK kvs)):ja H a (kV k) (iR kvs k):=.inl ⟨kvs,k,.inl e,rfl,rfl⟩
theorem ja.t{H:Hp}{a b:Addr}{kvs:List (List Key×V)}{k:List Key}(e:H a=some (.dT kvs))(eb:H b=some (.tup (k.map kV))):ja H a (.ref b) (iR kvs k):=.inr ⟨kvs,k,b,.inl e,rfl,eb,rfl⟩
theorem nK.k{H:Hp}{a:Addr}{kvs:List (Key×V)}{k:Key}{v:V}(e:H a=some (.dK kvs))(hl:kvs.length<sizeLine):nK H a (kV k) v (upd H a (.dK (putK kvs k v))):=.inl ⟨kvs,k,e,rfl,hl,rfl⟩
theorem nK.t{H:Hp}{a b:Addr}{kvs:List (List Key×V)}{k:List Key}{v:V}(e:H a=some (.dT kvs))(eb:H b=some (.tup (k.map kV)))(hl:kvs.length<sizeLine) :
 nK H a (.ref b) v (upd H a (.dT (putK kvs k v))):=.inr ⟨kvs,k,b,e,rfl,eb,hl,rfl⟩
section
variable{X:Cx}{c_:Qqz}{σ:St}{H:Hp}{s:Shared}{a:Addr}{y v:V}{u r:Value}{o:Option V}{A:Around}{E:Qqq}
theorem Inv.big(I:Inv X c_ σ H s):sysModules<s.heap.objs.size:=by
 have h:mainGlobals<s.heap.objs.size:=(I.mod.glob.keeps I.bk).lt
 exact Nat.lt_trans (by decide) h
theorem HK{Q:Qqq}(hu:A.units+1<cLine)(I:Inv X c_ σ H s)(g:ja H a y (some v))(ry:RelV y u)(h:∀w' s',Inv X c_ σ H s'→RelV v w'→Q w' s') :
  wpAny (model X.prog X.w) A (getItem (.ref a) u) Q E s:=by
 rcases g with⟨kvs,k,e,ey,l⟩|⟨kvs,k,b,e,ey,eb,l⟩
 ·subst ey
  obtain⟨z,hd,vs,rel,dd⟩:=xG I.iP e
  obtain⟨w',hw,Br⟩:=pI.some_of (v:=v) (o:=valueAt vs k) (by rw[l];exact rel.val k)
  exact wpAny_getItem_of (zr ry) dd.mapOf hw (h w' _ (I.tok _) Br)
 ·subst ey
  cases (show u=Value.ref b from ry)
  obtain⟨z,hd,xs,rel,dd⟩:=xH I.iP e
  obtain⟨w',hw,Br⟩:=pI.some_of (v:=v) (o:=(atKey xs k).map (·.2)) (by rw[l];exact rel.val k)
  obtain⟨p,hp,zf⟩:=Option.map_eq_some_iff.mp hw
  refine wpAny_getItem_heap (abz hu) (um I.iP eb) dd hp ?_
  rw[zf]
  exact h w' _ (I.tok _) Br
theorem V3{Q:Qqq}(hu:A.units+1<cLine)(I:Inv X c_ σ H s)(g:ja H a y o)(ry:RelV y u)(h:∀s',Inv X c_ σ H s'→Q (.bool o.isSome) s') :
  wpAny (model X.prog X.w) A (compareOp .In u (.ref a)) Q E s:=by
 rcases g with⟨kvs,k,e,ey,l⟩|⟨kvs,k,b,e,ey,eb,l⟩
 ·subst ey
  obtain⟨z,hd,vs,rel,dd⟩:=xG I.iP e
  refine wpAny_in_of (zr ry) hd dd.mapOf ?_
  rw[←(rel.val k).pL,←l]
  exact h _ (I.tok _)
 ·subst ey
  cases (show u=Value.ref b from ry)
  obtain⟨z,hd,xs,rel,dd⟩:=xH I.iP e
  refine wpAny_in_heap (abz hu) (um I.iP eb) hd dd ?_
  have q:=(rel.val k).pL
  rw[Option.isSome_map] at q
  rw[←q,←l]
  exact h _ (I.tok _)
theorem LY{Q:Qqq}(hu:A.units+1<cLine)(I:Inv X c_ σ H s)(g:ja H a y o)(ry:RelV y u)(h:∀s',Inv X c_ σ H s'→Q (.bool (!o.isSome)) s') :
  wpAny (model X.prog X.w) A (compareOp .NotIn u (.ref a)) Q E s:=by
 rcases g with⟨kvs,k,e,ey,l⟩|⟨kvs,k,b,e,ey,eb,l⟩
 ·subst ey
  obtain⟨z,hd,vs,rel,dd⟩:=xG I.iP e
  refine wpAny_notIn_of (zr ry) hd dd.mapOf ?_
  rw[←(rel.val k).pL,←l]
  exact h _ (I.tok _)
 ·subst ey
  cases (show u=Value.ref b from ry)
  obtain⟨z,hd,xs,rel,dd⟩:=xH I.iP e
  refine wpAny_notIn_heap (abz hu) (um I.iP eb) hd dd ?_
  have q:=(rel.val k).pL
  rw[Option.isSome_map] at q
  rw[←q,←l]
  exact h _ (I.tok _)
theorem sW{h':Heap}{t':Nat}{ob:HO}(I:Inv X c_ σ H s)(mu:Nh (H a))(hs:Heap.SameBut a s.heap h')(he:∃q,h'.get? a=some q)(new:i9 X.prog X.w (upd H a ob) h' a ob) :
  Inv X c_ σ (upd H a ob) {s with heap:=h',toks:=t'}:=
 I.write (x:=a) (e:=a) mu (.inl rfl) (fun b q hb z=>(hs.2 b hb).trans z) he new
theorem FL{P:Program}{w:World}{H':Hp}{h':Heap}{kvs:List (Key×V)}{vs:List (Key×Value)}(z:kvs.length≤sizeLine)(hd:(a ==sysModules)=false)(rel:KV kvs vs)(dd:h'.DictOf (jf P w) a vs) :
 i9 P w H' h' a (.dK kvs):=⟨z,hd,vs,rel,dd⟩
theorem HL{H':Hp}{Q:Unit→Shared→Prop}(hu:A.units+1<cLine)(I:Inv X c_ σ H s)(g:nK H a y v H')(ry:RelV y u)(rv:RelV v r)(h:∀s',Inv X c_ σ H' s'→Q () s') :
  wpAny (model X.prog X.w) A (setItem (.ref a) u r) Q E s:=by
 rcases g with⟨kvs,k,e,ey,l,eH⟩|⟨kvs,k,b,e,ey,eb,l,eH⟩
 ·subst ey eH
  obtain⟨z,hd,vs,rel,dd⟩:=Jo I.iP e
  have hz:vs.length≤sizeLine:=by rw[←rel.length];exact z
  have hl:(putK kvs k v).length≤sizeLine:=by have:=jq kvs k v;omega
  refine wpAny_setItem_pairs (hsz:=hz) (zr ry) dd fun h' LD hs=>h _ ?_
  have he:∃q,h'.get? a=some q:=let ⟨q,_,_,hq,_⟩:=LD;⟨q,hq⟩
  exact sW I (by rw[e];exact True.intro) hs he (FL hl hd (rel.put k rv) LD)
 ·subst ey eH
  cases (show u=Value.ref b from ry)
  obtain⟨z,hd,xs,rel,dd⟩:=Jp I.iP e
  have hz:xs.length≤sizeLine:=by rw[←aaq rel];exact z
  have hl:(putK kvs k v).length≤sizeLine:=by have:=jq kvs k v;omega
  refine wpAny_setItem_heap (hsz:=hz) (abz hu) (um I.iP eb) dd fun h' LD hs=>h _ ?_
  obtain⟨q,es,ep,hq,h2,h3,h4,_,h5⟩:=LD
  refine sW I (by rw[e];exact True.intro) hs ⟨q,hq⟩ ⟨hl,hd,_,(rel.put k eb rv).keeps fun c ys ec=>?_,q,es,ep,hq,h2,h3,h4,h5⟩
  rw[e_ (iX ec e (fun z=>nomatch z))]
  exact ec
end
section
variable{X:Cx}{c_:Qqz}{σ:St}{H:Hp}{s:Shared}{a:Addr}{kvs:List (Key×V)}{k:Key}{u:Value}{A:Around}{E:Qqq}
theorem RL{v:V}{more:List Value}{Q:Qqq}(I:Inv X c_ σ H s)(e:H a=some (.dK kvs))(ry:RelV (kV k) u)(l:iR kvs k=some v)(hm:more=[]∨∃x,more=[x])
  (h:∀w' s',Inv X c_ σ (upd H a (.dK (jT kvs k))) s'→RelV v w'→Q w' s'):wpAny (model X.prog X.w) A (call (.builtin "dict.pop") (.ref a::u::more)) Q E s:=by
 obtain⟨z,hd,vs,rel,dd⟩:=Jo I.iP e
 obtain⟨w',hw,Br⟩:=pI.some_of (v:=v) (o:=valueAt vs k) (by rw[←l];exact rel.val k)
 have hp:(keyPart u).isSome=true:=by
  cases k with
  | inl i=>obtain⟨t,q⟩:=(show ∃t,u=Value.int i t from ry);subst q;rfl
  | inr x=>obtain⟨t,q⟩:=(show ∃t,u=Value.str x t from ry);subst q;rfl
 have ha:argsOk "dict.pop" ⟨.ref a::u::more,[]⟩:=by
  rcases hm with q|⟨x,q⟩
  ·subst q;exact PySem.F.args_dict_pop_2 _ _
  ·subst q;exact PySem.F.args_dict_pop_3 _ _ _
 refine call_meetsIn ab9 dd.typeIs PySem.F.entry_dict_pop ha (meets_dict_pop_there (jf X.prog X.w) a (zr ry) more hm hp)
  ⟨vs,w',dd,by rw[←rel.length];exact z,hw,fun h' LD hs=>h w' _ ?_ Br⟩
 have he:∃q,h'.get? a=some q:=let ⟨q,_,_,hq,_⟩:=LD;⟨q,hq⟩
 exact sW I (by rw[e];exact True.intro) hs he (FL (aac (Ef kvs k) z) hd (rel.drop k) LD)
end
def OD(i:Expr):Prop:=∀ov iv,subscripted i false ov iv=operate [ov,iv] (getItem ov iv)
theorem LZ{prog:Program}{w:World}{A:Around}{E:Qqq}{s:Shared}{env:Env}{value slice:Expr}{pos:Pos}{T id:String}{Q:Qqq}
  (hl:typeLookup (.type T) "__getitem__"=pure (some (.builtin id))) (hs:OD slice)
  (h:wpAny (model prog w) A (eval value env) (fun o s₁=>wpAny (model prog w) A (eval slice env) (fun i s₂=>s₂.TypeIs o T∧wpAny (model prog w) A (getItem o i) Q E s₂) E s₁) E s) :
  wpAny (model prog w) A (eval (.Subscript value slice pos) env) Q E s:=by
 refine Subscript_ (abt h (fun o s₁ h₁=>abt h₁ (fun i s₂ h₂=>?_) fun _ _ x=>x) fun _ _ x=>x)
 obtain⟨hT,h₂⟩:=h₂
 unfold subscriptTail
 refine V8 ?_
 rw[getitemInPython_of_ne hT.not_modules]
 refine V8 (ab_ hT hl ?_)
 have fin:wpAny (model prog w) A (subscripted slice false o i) (fun r s₃=>wpAny (model prog w) A (letTemporaryGo value o r >>= fun _=>pure r) Q E s₃) E s₂:=by
  rw[hs o i]
  exact wpAny_operating (abt h₂ (fun r s₃ h₃=>V8 (wpAny_letTemporaryGo (aao h₃))) fun _ _ x=>x)
 first
  | exact aao (V8 fin)
  | exact V8 (aao (V8 fin))
  | exact V8 fin
theorem Eg{X:Cx}{c_:Qqz}{σ:St}{H:Hp}{s:Shared}{a:Addr}{y:V}{o:Option V}(I:Inv X c_ σ H s)(g:ja H a y o):s.TypeIs (.ref a) "dict":=by
 rcases g with⟨kvs,k,e,_,_⟩|⟨kvs,k,b,e,_,_,_⟩
 ·obtain⟨_,_,vs,_,dd⟩:=xG I.iP e
  exact dd.typeIs
 ·obtain⟨_,_,xs,_,dd⟩:=xH I.iP e
  exact dd.typeIs
def Nr(td ty:TE):TE:=fun σ H Q=>td σ H fun x H1=>ty σ H1 fun y H2=>∃a v,x=.ref a∧ja H2 a y (some v)∧Q v H2
def V4(ty td:TE):TE:=fun σ H Q=>ty σ H fun y H1=>td σ H1 fun x H2=>∃a o,x=.ref a∧ja H2 a y o∧Q (.bl o.isSome) H2
def L0(ty td:TE):TE:=fun σ H Q=>ty σ H fun y H1=>td σ H1 fun x H2=>∃a o,x=.ref a∧ja H2 a y o∧Q (.bl (!o.isSome)) H2
def RM(td ty tv:TE):TS:=fun D σ H=>tv σ H fun v H1=>td σ H1 fun x H2=>ty σ H2 fun y H3=>∃a H4,x=.ref a∧nK H3 a y v H4∧D.nx σ H4
section
variable{X:Cx}{o i e value:Expr}{pos pos' P2:Pos}{td ty tv:TE}
theorem L1(hu:X.A.units+1<cLine)(ho:PE X o td)(hi:PE X i ty)(hs:OD i):PE X (.Subscript o i pos) (Nr td ty):=by
 intro c_ s σ H Q I h
 refine LZ PySem.F.slot_dict_getitem.lookup hs (i8 (ho c_ s σ H _ I h) fun u s1 iM=>?_)
 obtain⟨x,H1,I1,rx,q1⟩:=iM
 refine i8 (hi c_ s1 σ H1 _ I1 q1) fun iv s2 IG=>?_
 obtain⟨y,H2,I2,ry,a,v,ex,g,q2⟩:=IG
 subst ex
 obtain rfl:u=Value.ref a:=rx
 exact⟨Eg I2 g,HK hu I2 g ry fun w' s3 I3 Br=>⟨v,H2,I3,Br,q2⟩⟩
theorem ph(hu:X.A.units+1<cLine)(hi:PE X i ty)(ho:PE X o td):PC X .In i o (V4 ty td):=by
 intro c_ s σ H Q I h
 refine i8 (hi c_ s σ H _ I h) fun iv s1 iM=>?_
 obtain⟨y,H1,I1,ry,q1⟩:=iM
 refine i8 (ho c_ s1 σ H1 _ I1 q1) fun u s2 IG=>?_
 obtain⟨x,H2,I2,rx,a,ov,ex,g,q2⟩:=IG
 subst ex
 obtain rfl:u=Value.ref a:=rx
 exact V3 hu I2 g ry fun s3 I3=>⟨.bl ov.isSome,H2,I3,rfl,q2⟩
theorem lu(hu:X.A.units+1<cLine)(hi:PE X i ty)(ho:PE X o td):PC X .NotIn i o (L0 ty td):=by
 intro c_ s σ H Q I h
 refine i8 (hi c_ s σ H _ I h) fun iv s1 iM=>?_
 obtain⟨y,H1,I1,ry,q1⟩:=iM
 refine i8 (ho c_ s1 σ H1 _ I1 q1) fun u s2 IG=>?_
 obtain⟨x,H2,I2,rx,a,ov,ex,g,q2⟩:=IG
 subst ex
 obtain rfl:u=Value.ref a:=rx
 exact LY hu I2 g ry fun s3 I3=>⟨.bl (!ov.isSome),H2,I3,rfl,q2⟩
theorem jy(hu:X.A.units+1<cLine)(ho:PE X o td)(hi:PE X i ty)(hv:PE X value tv)(hs:swapsWith value (some (.Subscript o i pos')) pos.line X.env=pure false) :
  PS X (.Assign [.Subscript o i pos'] value pos) (RM td ty tv):=by
 intro c_ s σ H D I h
 refine wpAny_Assign_Subscript (i8 (hv c_ s σ H _ I h) fun r s1 iM=>?_) hs
 obtain⟨v,H1,I1,rv,q1⟩:=iM
 refine i8 (ho c_ s1 σ H1 _ I1 q1) fun u s2 IG=>?_
 obtain⟨x,H2,I2,rx,q2⟩:=IG
 refine i8 (hi c_ s2 σ H2 _ I2 q2) fun iv s3 zz2=>?_
 obtain⟨y,H3,I3,ry,a,H4,ex,g,q3⟩:=zz2
 subst ex
 obtain rfl:u=Value.ref a:=rx
 exact HL hu I3 g ry rv fun s4 I4=>⟨σ,H4,I4,q3⟩
end
theorem Jq{P:Program}{w:World}{H:Hp}(h:Heap)(hb:sysModules<h.objs.size):i9 P w H (h.push {cls:=.type "dict",data:=.dict #[]}) h.objs.size (.dK []):=
 ⟨aaI _,beq_eq_false_iff_ne.mpr (abJ (aaT hb)),[],.nil,Heap.DictOf.new h⟩
theorem Jr{P:Program}{w:World}{H:Hp}(h:Heap)(hb:sysModules<h.objs.size):i9 P w H (h.push {cls:=.type "dict",data:=.dict #[]}) h.objs.size (.dT []):=
 ⟨aaI _,beq_eq_false_iff_ne.mpr (abJ (aaT hb)),[],.nil,_,#[],0,aaC _ rfl,⟨rfl,rfl,rfl⟩,rfl,rfl,aa6⟩
def OE:TE:=fun _ H Q=>∀p,H p=none→Q (.ref p) (upd H p (.dK []))
def OF:TE:=fun _ H Q=>∀p,H p=none→Q (.ref p) (upd H p (.dT []))
section
variable{X:Cx}{pos:Pos}
theorem nV:PE X (.Dict [] [] pos) OE:=fun c_ s σ H Q I h=>
 wpAny_Dict_empty ⟨.ref s.heap.objs.size,_,I.laid (a:=s.heap.objs.size) (o:=.dK []) (t':=s.toks) (fun _ _ q=>aag _ q) (ZA _) (Jq s.heap I.big),rfl,h _ (I.iP.fresh (ZA _))⟩
theorem mJ:PE X (.Dict [] [] pos) OF:=fun c_ s σ H Q I h=>
 wpAny_Dict_empty ⟨.ref s.heap.objs.size,_,I.laid (a:=s.heap.objs.size) (o:=.dT []) (t':=s.toks) (fun _ _ q=>aag _ q) (ZA _) (Jr s.heap I.big),rfl,h _ (I.iP.fresh (ZA _))⟩
end
structure M1(X:Cx)(o:Expr)(m:Str)(apos:Pos)(e:Expr)(kY:Pos):Prop where
 base:attributeBase o m X.env (eval o X.env)=eval o X.env
 j0:((backTo kY (starEach [e] X.env)).all (fun x=>!x.1)&&(backToKw kY (keywordEach [] X.env)).all (fun x=>x.1.isSome)
  &&decide (([e]:List Expr).length+([]:List Keyword).length+(if([]:List Keyword).isEmpty then 0 else 1)<30))=true
 line:(apos.endLine ==kY.line)=true
 trees:backTo kY (starEach [e] X.env)=[(false,eval e X.env)]
structure M2(X:Cx)(o:Expr)(m:Str)(apos:Pos)(e f:Expr)(kY:Pos):Prop where
 base:attributeBase o m X.env (eval o X.env)=eval o X.env
 j0:((backTo kY (starEach [e,f] X.env)).all (fun x=>!x.1)&&(backToKw kY (keywordEach [] X.env)).all (fun x=>x.1.isSome)
  &&decide (([e,f]:List Expr).length+([]:List Keyword).length+(if([]:List Keyword).isEmpty then 0 else 1)<30))=true
 line:(apos.endLine ==kY.line)=true
 trees:backTo kY (starEach [e,f] X.env)=[(false,eval e X.env),(false,eval f X.env)]
def QK(H:Hp)(a:Addr):Prop:=(∃kvs,Rd H a (.dK kvs))∨∃kvs,Rd H a (.dT kvs)
theorem zt{X:Cx}{c_:Qqz}{σ:St}{H:Hp}{s:Shared}{a:Addr}(I:Inv X c_ σ H s)(d:QK H a) :
  s.TypeIs (.ref a) "dict"∧(∀b,Value.ref a=.ref b→∃ob,s.heap.get? b=some ob∧ob.dict=none)∧(a ==sysModules)=false:=by
 rcases d with⟨kvs,e⟩|⟨kvs,e⟩
 ·obtain⟨_,hd,vs,_,dd⟩:=xG I.iP e
  refine⟨dd.typeIs,fun b q=>?_,hd⟩
  cases q
  obtain⟨ob,_,_,h1,h2,_⟩:=dd
  exact⟨ob,h1,h2.2.1⟩
 ·obtain⟨_,hd,xs,_,dd⟩:=xH I.iP e
  refine⟨dd.typeIs,fun b q=>?_,hd⟩
  cases q
  obtain⟨ob,_,_,h1,h2,_⟩:=dd
  exact⟨ob,h1,h2.2.1⟩
section
variable{X:Cx}{c_:Qqz}{σ:St}{H:Hp}{s:Shared}{a:Addr}{y d:V}{u r:Value}{o:Option V}{A:Around}{E:Qqq}
theorem OG{Q:Qqq}(hu:A.units+1<cLine)(I:Inv X c_ σ H s)(g:ja H a y o)(ry:RelV y u)(rd:RelV d r)(h:∀w' s',Inv X c_ σ H s'→RelV (o.getD d) w'→Q w' s') :
  wpAny (model X.prog X.w) A (call (.builtin "dict.get") [.ref a,u,r]) Q E s:=by
 rcases g with⟨kvs,k,e,ey,l⟩|⟨kvs,k,b,e,ey,eb,l⟩
 ·subst ey
  obtain⟨z,hd,vs,rel,dd⟩:=xG I.iP e
  refine call_meetsIn PySem.F.slot_dict_get dd.typeIs PySem.F.entry_dict_get (PySem.F.args_dict_get_3 _ _ _) (meets_dict_get_default (jf X.prog X.w) a (zr ry) hd r) ⟨_,dd.mapOf,h _ _ (I.tok _) ?_⟩
  rw[l]
  exact(rel.val k).getD rd
 ·subst ey
  cases (show u=Value.ref b from ry)
  obtain⟨z,hd,xs,rel,dd⟩:=xH I.iP e
  refine call_meetsIn PySem.F.slot_dict_get dd.typeIs PySem.F.entry_dict_get (PySem.F.args_dict_get_3 _ _ _) (meetsH_dict_get_default (tupleKind (jf X.prog X.w)) a b hd r) ⟨abz hu,k,xs,um I.iP eb,dd,h _ _ (I.tok _) ?_⟩
  rw[l]
  exact(rel.val k).getD rd
end
def OH(td ty tx:TE):TE:=fun σ H Q=>td σ H fun x H1=>∃a,x=.ref a∧QK H1 a∧ty σ H1 fun y H2=>tx σ H2 fun z H3=>∃o,ja H3 a y o∧Q (o.getD z) H3
def OI(td ty:TE):TE:=fun σ H Q=>td σ H fun x H1=>∃a,x=.ref a∧QK H1 a∧ty σ H1 fun y H2=>∃kvs k v,H2 a=some (.dK kvs)∧y=kV k∧iR kvs k=some v∧Q v (upd H2 a (.dK (jT kvs k)))
section
variable{X:Cx}{o e f:Expr}{apos kY:Pos}{td ty tx:TE}
theorem Js(hu:X.A.units+1<cLine)(ho:PE X o td)(he:PE X e ty)(hf:PE X f tx)(m:M2 X o "get" apos e f kY):PE X (.Call (.Attribute o "get" apos) [e,f] [] kY) (OH td ty tx):=by
 intro c_ s σ H Q I h
 refine wpAny_Call_method m.base m.j0 m.line abD PySem.F.slot_dict_get PySem.F.type_dict_get (i8 (ho c_ s σ H _ I h) fun u s1 iM=>?_)
 obtain⟨x,H1,I1,rx,a,ex,d,q1⟩:=iM
 subst ex
 obtain rfl:u=Value.ref a:=rx
 obtain⟨t1,t2,_⟩:=zt I1 d
 refine⟨t1,t2,?_⟩
 rw[m.trees]
 refine abe rfl (abo (abb (i8 (he c_ s1 σ H1 _ I1 q1) fun iv s2 ⟨y,H2,I2,ry,q2⟩=>
  abb (i8 (hf c_ s2 σ H2 _ I2 q2) fun fv s3 ⟨z,H3,I3,rz,ov,g,q3⟩=>abv ?_))))
 exact OG hu I3 g ry rz fun w' s4 I4 Br=>⟨_,H3,I4,Br,q3⟩
theorem Jt(ho:PE X o td)(he:PE X e ty)(m:M1 X o "pop" apos e kY):PE X (.Call (.Attribute o "pop" apos) [e] [] kY) (OI td ty):=by
 intro c_ s σ H Q I h
 refine wpAny_Call_method m.base m.j0 m.line abD ab9 PySem.F.type_dict_pop (i8 (ho c_ s σ H _ I h) fun u s1 iM=>?_)
 obtain⟨x,H1,I1,rx,a,ex,d,q1⟩:=iM
 subst ex
 obtain rfl:u=Value.ref a:=rx
 obtain⟨t1,t2,_⟩:=zt I1 d
 refine⟨t1,t2,?_⟩
 rw[m.trees]
 refine abe rfl (abo (abb (i8 (he c_ s1 σ H1 _ I1 q1) fun iv s2 iM=>?_)))
 obtain⟨y,H2,I2,ry,kvs,k,v,ea,ey,l,q2⟩:=iM
 refine abv ?_
 subst ey
 exact RL I2 ea ry l (.inl rfl) fun w' s3 I3 Br=>⟨v,_,I3,Br,q2⟩
end
section
variable{X:Cx}{c_:Qqz}{σ:St}{H:Hp}{s:Shared}{a:Addr}{kvs:List (Key×V)}{A:Around}{E:Qqq}
end
section
variable{X:Cx}{c_:Qqz}{σ:St}{H:Hp}{s:Shared}{a:Addr}{y:V}{u:Value}{A:Around}{E:Qqq}
end
end L2
namespace Zz
open PySem PySem.W PySem.Calls PyProof.Rows
theorem yH{P:Params}{h:Heap}:∀(ns:List Int)(vs:List Value),WellAll P h vs (ns.map WData.int)→IntsAre vs ns:=by
 intro ns
 induction ns with
 | nil=>
  intro vs w
  rw[List.map_nil] at w
  cases w
  exact .nil
 | cons n ns ih=>
  intro vs w
  rw[aav] at w
  cases w with
  | cons a b=>
   cases a
   exact .cons _ _ (ih _ b)
theorem HM{l:OpenLaw}{n:Nat}(hn:l.most=some n){P:Params}{h:Heap}{args:List WData}{vals:List Value}
  (II:l.row.toRowW.claim.pre args=true) (IW:WellAll P h vals args) :
  ∃a vs ns,vals=[Value.ref a]∧args=[WData.list (ns.map WData.int)]∧h.get? a=some {cls:=.type "list",data:=.seq vs.toArray}∧IntsAre vs ns∧ns.length≤n:=by
 have hsh:WShape.hasAll [] args [.list .int]=true:=(pre_splitW II).1
 have hc:l.pre.holds [] {args:=args}=true:=(pre_splitW II).2
 obtain⟨d,r,rfl,h1,h2⟩:=hasAllW_cons hsh
 obtain rfl:=hasAllW_nil h2
 obtain⟨xs,rfl,h3⟩:=hasW_list h1
 obtain⟨ns,rfl⟩:=items_int h3
 have hlen:ns.length≤n:=by
  unfold OpenLaw.pre at hc
  have h4:(WTm.not (.lt (.lit (.int (n:Int))) (.len (.arg 0)))).holds [] {args:=[.list (ns.map .int)]}=true:=by
   have h4:=(holds_andW hc).1
   rw[hn] at h4
   exact h4
  have h5:=condW_of h4 (w_not (w_lt w_lit (w_len_list (w_arg rfl))))
  rw[Tj] at h5
  refine Nat.le_of_not_lt fun q=>?_
  have q':(n:Int)<((ns.length:Nat):Int):=by omega
  first
   | (rw[ZF q'] at h5;exact absurd h5 (by decide))
   | (simp at h5;omega)
 cases IW with
 | cons w1 w2=>
  cases w2
  cases w1 with
  | list ho Dm=>exact⟨_,_,ns,rfl,rfl,ho,yH ns _ Dm,hlen⟩
theorem HN(l:OpenLaw)(args:List WData):l.row.toRowW.claim.post args (.bool true) args=true:=
 postW_of (r:=l.row.toRowW) (X:=(true ==true))
  (show WShape.has [] (.bool true) .bool=true by first|rfl|decide|simp[WShape.has,WShape.arms,WShape.armsAll])
  (show(WTm.eq .res (.lit (.bool true))).value [] {args:=args,res:=some (.bool true),after:=args}=some (.bool (true ==true)) from w_eq_bool (w_res rfl) w_lit) rfl
theorem Eh{l:OpenLaw}{n:Nat}{q:Program}{loose:List Str}{XP:(Qqx)→Heap→Prop}{YP:World→Heap→Prop}{d:DefRec}
  (hn:l.most=some n) (SU:d.params.defaults=[])
  (call:∀(w:World)(s₀ s₁:Shared)(mg mb:Qqx)(fa:Addr)(o:Obj)(pm cd doc:Value)(a:Addr)(vs:List Value)(ns:List Int),
   Ground q loose [] XP w s₀ mg mb s₁.heap→YP w s₁.heap→
   s₁.heap.get? fa=some o→o.data=.func (docDef d.name d.params d.body d.scope pm cd doc)→s₁.heap.CodeRec cd d.name→mg d.name=some (.ref fa)→
   s₁.heap.get? a=some {cls:=.type "list",data:=.seq vs.toArray}→IntsAre vs ns→ns.length≤n→s₁.gens=#[]→
   codeAny (model l.prog w) callerA (.call (.ref fa) ⟨[.ref a],[]⟩) (fun r s'=>r=.ok (.ret (.bool true))∧OldK s₁.heap s'.heap∧s'.os=s₁.os∧AllBare s'.gens) s₁) :
  WalkO q loose XP YP l.row.toRowW d [] (fun f vs=>PySem.call f vs):=by
 intro w s₀ s₁ mg mb G Y fa o pm cd doc dV kV ho hd Cg hD SV hg args vals as II hlay hrd IW WD
 obtain rfl:dV=.none:=Dflts.none hD SU
 obtain rfl:kV=.none:=Dflts.noKw hD
 obtain⟨a,vs,ns,rfl,rfl,P5,hints,hlen⟩:=HM hn II IW
 refine enter_call (codeAny_mono (call w s₀ s₁ mg mb fa o pm cd doc a vs ns G Y ho (fd_plain hd) Cg SV P5 hints hlen hg) fun r s' hq=>?_)
 obtain⟨rfl,h2,h3,h4⟩:=hq
 exact⟨.inl ⟨.bool true,.bool true,[],rfl,fun _=>rfl,.bool true,HN l _,fun _=>⟨List.Pairwise.nil,fun _ hm=>(nomatch hm)⟩⟩,h2,h3,h4⟩
section
variable{prog:Program}{w:World}{A:Around}{E:Qqq}{s:Shared}{K:Frag}
def ledger(h:Heap)(L d:Addr):Qqz:=(List.range h.objs.size).filterMap fun a=>if a=L∨a=d then none else(h.get? a).map fun o=>(a,o)
end
end Zz
namespace L2
open PySem PySem.Spec PyProof.Rows
theorem BH:∀{vs:List Value} {ns:List Int},IntsAre vs ns→Vals (ns.map V.int) vs
 | _,_,.nil=>.nil
 | _,_,.cons n t h=>.cons ⟨t,rfl⟩ (BH h)
def OJ(H:Hp):Prop:=∀b,H b=none∨∃o xs,H b=some (.nA o (.lst xs))
theorem Ju{P:Program}{w:World}{K:Qqy}{mg mb:Qqx}{CX:GQ}{k:Nat}{fa a:Addr}{fd:FuncData}{x:Str}{sp:Sp}{s₁:Shared}{vs:List Value}{ns:List Int}
  (KX:K.In s₁.heap) (ZS:s₁.heap.Ns mainGlobals mg) (hb:s₁.heap.Ns builtinsNs mb) (hbb:∀x:Str,x≠"__name__"→mb x=bootBuiltins x) (WE:s₁.heap.NoLimit) (hg:s₁.gens=#[])
  (ha:s₁.heap.get? a=some {cls:=.type "list",data:=.seq vs.toArray}) (hi:IntsAre vs ns) (hl:ns.length≤sizeLine) (hr:kD k callerA)
  (F:∀base:Heap,K.In base→base.Ns mainGlobals mg→ip P w K mg base CX k fa fd [x] sp) (SW:∀(s:Shared)(u:Value),BindsTo s fd ⟨[u],[]⟩ [(x,u)])
  (LC:∀H:Hp,OJ H→hE K H a (ns.map V.int)→sp [.ref a] H (fun v _=>v=.bl true) fun _ _ _=>False)
  (WG:∀H e s',CX [] H s₁ (fun _ _ _=>False) e s'→False) :
  codeAny (model P w) callerA (.call (.ref fa) ⟨[.ref a],[]⟩) (fun r s'=>r=.ok (.ret (.bool true))∧OldK s₁.heap s'.heap∧s'.os=s₁.os∧AllBare s'.gens) s₁:=by
 have rv:=BH hi
 have WH:=hi.length
 have core:∀H:Hp,OJ H→hE K H a (ns.map V.int)→rh P w H s₁.heap→(∀b,H b≠none→b=a)→(H a≠none→K.lookup a=none)→
   codeAny (model P w) callerA (.call (.ref fa) ⟨[.ref a],[]⟩) (fun r s'=>r=.ok (.ret (.bool true))∧OldK s₁.heap s'.heap∧s'.os=s₁.os∧AllBare s'.gens) s₁:=by
  intro H hO hS iP hA hK
  have Hs:∀{b:Addr} {o:Obj},s₁.heap.get? b=some o→H b=none→(Cm s₁.heap H).get? b=some o:=fun e n=>Jb e n
  have SQ:∀{b:Addr} {o:Obj} {es:Array DictEntry} {ep:Nat},s₁.heap.get? b=some o→o.data=.dict es ep→H b=none:=fun{b o es ep} e d=>by
   cases q:H b with
   | none=>rfl
   | some u=>
    have e':b=a:=hA b (by rw[q];simp)
    subst e'
    rw[ha] at e;cases e
    have d':Data.seq vs.toArray _=Data.dict es ep:=d
    cases d'
  have US:∀{b:Addr} {m:Qqx},s₁.heap.Ns b m→(Cm s₁.heap H).Ns b m:=fun{b m} ⟨o,es,ep,e,d,r⟩=>⟨o,es,ep,Hs e (SQ e d),d,r⟩
  have ZT:K.In (Cm s₁.heap H):=fun b o e=>Hs (KX b o e) (by
   cases q:H b with
   | none=>rfl
   | some u=>
    have e':b=a:=hA b (by rw[q];simp)
    subst e'
    rw[hK (by rw[q];simp)] at e;cases e)
  have hM:Mod K mg (Cm s₁.heap H):=⟨ZT,US ZS,⟨mb,US hb,hbb⟩,let ⟨mc,h1,h2⟩:=WE;⟨mc,US h1,h2⟩⟩
  have e0:FD P w K mg (Cm s₁.heap H) callerA [] s₁ H:=⟨rfl,hM,fun b o e=>LK e,Nat.le_of_eq (Hz _ _),trivial,fun b hb=>absurd (show b∈([]:List Addr) from hb) (by simp),iP,.of_eq hg⟩
  refine codeAny_mono ((F _ ZT (US ZS)).run callerA [] s₁ H ⟨[.ref a],[]⟩ [.ref a] [.ref a] _ _ hr e0 (SW s₁ (.ref a)) (.cons rfl .nil) (LC H hO hS)) fun r s' h=>?_
  cases r with
  | error e=>exact(WG H e s' h).elim
  | ok fl=>
   cases fl with
   | next=>exact False.elim h
   | brk=>exact False.elim h
   | cont=>exact False.elim h
   | ret u=>
    obtain⟨v,H',os,bare,un,WI,r',q⟩:=h
    have q':v=.bl true:=q
    subst q'
    obtain rfl:u=Value.bool true:=r'
    refine⟨rfl,OldK.of_keep fun b o e=>?_,os,bare⟩
    cases q:H b with
    | none=>exact un.keep b o e q (by intro z;exact absurd (show b∈([]:List Addr) from z) (by simp)) (by simp)
    | some u=>
     rcases hO b with z|⟨ob,xs,z⟩
     ·rw[q] at z;cases z
     ·have z2:=un.uT b ob _ z
      obtain⟨e1,_⟩:=iP b _ z
      obtain⟨e2,_⟩:=WI b _ z2
      rw[e] at e1;cases e1
      exact e2
 cases hk:K.lookup a with
 | some o=>
  have e:=KX a o hk
  rw[ha] at e
  cases e
  refine core (fun _=>none) (fun _=>.inl rfl) (.inr ⟨_,vs.toArray,_,hk,rfl,rfl,rfl,by rw[aai,WH];exact hl,by simpa using rv⟩) (fun b u z=>by have z':(none:Option HO)=some u:=z;cases z') (fun b z=>absurd rfl z) fun z=>absurd rfl z
 | none=>
  refine core (fun b=>if b=a then some (.nA {cls:=.type "list",data:=.seq vs.toArray} (.lst (ns.map V.int))) else none) (fun b=>?_) (.inl (.inr ⟨{cls:=.type "list",data:=.seq vs.toArray},aap rfl⟩)) (fun b u z=>?_) (fun b z=>?_) fun _=>hk
  ·by_cases hb:b=a
   ·exact .inr ⟨_,_,aap hb⟩
   ·exact .inl (aak hb)
  ·by_cases hb:b=a
   ·have z':=(aap hb).symm.trans z
    cases z'
    subst hb
    exact⟨ha,by rw[Tj];exact hl,vs,_,rv,ha⟩
   ·have z':=(aak hb).symm.trans z
    cases z'
  ·by_cases hb:b=a
   ·exact hb
   ·exact absurd (aak hb) z
theorem L3{l:W.OpenLaw}{n k:Nat}{q:Program}{loose:List Str}{XP:(Qqx)→Heap→Prop}{YP:World→Heap→Prop}{d:DefRec}{K:Params→Qqy}{CX:World→GQ}{sp:World→Sp}{x:Str}
  (hn:l.most=some n) (P1:n≤sizeLine) (SU:d.params.defaults=[]) (hr:kD k callerA)
  (hY:∀(w:World)(h:Heap),YP w h→(K w.params).In h)
  (F:∀(w:World)(mg:Qqx)(fa:Addr)(h:Heap),(K w.params).In h→h.Ns mainGlobals mg→mg d.name=some (.ref fa)→
   ∃fd:FuncData,(∀(s:Shared)(u:Value),BindsTo s fd ⟨[u],[]⟩ [(x,u)])∧
    ∀base:Heap,(K w.params).In base→base.Ns mainGlobals mg→ip l.prog w (K w.params) mg base (CX w) k fa fd [x] (sp w))
  (LC:∀(w:World)(H:Hp)(a:Addr)(ns:List Int),ns.length≤n→OJ H→hE (K w.params) H a (ns.map V.int)→sp w [.ref a] H (fun v _=>v=.bl true) fun _ _ _=>False)
  (WG:∀(w:World)(H:Hp)(s:Shared)(e:Value)(s':Shared),CX w [] H s (fun _ _ _=>False) e s'→False) :
  W.WalkO q loose XP YP l.row.toRowW d [] (fun f vs=>PySem.call f vs):=by
 refine Zz.Eh hn SU fun w s₀ s₁ mg mb fa o pm cd doc a vs ns G Y ho hd Cg SV P5 hints hlen hg=>?_
 have KX:=hY w _ Y
 obtain⟨fd,hb,hF⟩:=F w mg fa _ KX G.T.g SV
 exact Ju KX G.T.g G.T.b G.T.builtins G.T.nolimit hg P5 hints (aac hlen P1) hr hF hb (fun H hO hS=>LC w H a ns hlen hO hS) fun H e s'=>WG w H s₁ e s'
noncomputable def inClass(s:Stmt)(j:Nat):Stmt:=match s with
 | .ClassDef _ _ _ body _ _ _ _ _ _ _=>body.getD j (.Pass ⟨0,0,0,0⟩)
 | _=>.Pass ⟨0,0,0,0⟩
noncomputable def oM(s:Stmt):Arguments:=match s with
 | .FunctionDef _ a _ _ _ _ _ _ _ _=>a
 | _=>{posonlyargs:=[],args:=[],vararg:=none,kwonlyargs:=[],kw_defaults:=[],kwarg:=none,defaults:=[]}
noncomputable def k_(s:Stmt):List Stmt:=match s with
 | .FunctionDef _ _ b _ _ _ _ _ _ _=>b
 | _=>[]
noncomputable def gc(s:Stmt):Scope:=match s with
 | .FunctionDef _ _ _ _ _ _ sc _ _ _=>sc
 | _=>{kind:=.function,names:=[],isGenerator:=false,isCoroutine:=false}
abbrev mU:GQ:=fun _ _ _ _ _ _=>False
abbrev E0:XK:=fun _ _ _=>False
theorem pM{X:Cx}:Passes mU X E0:=fun _ _ _ _ _ _ _ h=>h.elim
structure xI(K:Qqy)(x qual:Str)(st:Stmt)(f:Addr)(fd:FuncData):Prop where
 ex:∃(oc:Value)(od:Option Addr)(kV doc pm:Value)(an:Option Addr)(js ct:Value)(IV:Array (Option Value)),
  fd=W.fnOf x qual (oM st) (k_ st) (gc st) .none kV doc pm an js ct∧K.lookup f=some ⟨oc,od,.func fd,IV⟩∧W.codeIn K js qual=true
 kp:W.keepIn K (.ref f)=true
section
variable{P:Program}{w:World}{K:Qqy}{mg:Qqx}{base:Heap}
theorem xI.ok{x qual:Str}{st:Stmt}{f:Addr}{fd:FuncData}{N ps:List Str}{k:Nat}{sp:Sp}(F:xI K x qual st f fd)(S:gB N ps (gc st))(len:∀vs H Q E,sp vs H Q E→vs.length=ps.length)
  (wk:∀(js:Value)(A:Around)(outer:List Env)(s:Shared)(H:Hp)(vs:List V)(Q:VK)(E:XK),kD k (A.deeper (envOfC qual (gc st) s.heap.objs.size f js))→sp vs H Q E→
   ∃t,Fn (wD mU P w K mg base N qual (gc st) f js A outer s H E).Rr (k_ st) t∧t {nx:=fun _ H'=>Q .jo H',rt:=Q} (start N vs) H):ip P w K mg base mU (k+1) f fd ps sp:=by
 obtain⟨oc,od,kV,doc,pm,an,js,ct,IV,rfl,lk,Cg⟩:=F.ex
 refine Np lk Cg S len fun A outer s H vs Q E hr LC=>?_
 obtain⟨t,h,q⟩:=wk js A outer s H vs Q E hr LC
 exact⟨t,h.Rr,q⟩
theorem xI.binds{x qual:Str}{st:Stmt}{f:Addr}{fd:FuncData}{ps:List Str}(F:xI K x qual st f fd)
  (h:∀(kV doc pm:Value)(an:Option Addr)(js ct:Value)(us:List Value),us.length=ps.length→bindArgs (W.fnOf x qual (oM st) (k_ st) (gc st) .none kV doc pm an js ct) ⟨us,[]⟩=pure (ps.zip us)):Binds K fd ps []:=by
 obtain⟨oc,od,kV,doc,pm,an,js,ct,IV,rfl,lk,Cg⟩:=F.ex
 exact .all (h kV doc pm an js ct)
theorem Jw{x qual:Str}{st:Stmt}{f:Addr}{oc:Value}{od an:Option Addr}{IV:Array (Option Value)}{kV doc pm js ct:Value}(l:K.lookup f=some ⟨oc,od,.func (W.fnOf x qual (oM st) (k_ st) (gc st) .none kV doc pm an js ct),IV⟩)
 (c:W.codeIn K js qual=true) (k:W.keepIn K (.ref f)=true):xI K x qual st f (W.fnOf x qual (oM st) (k_ st) (gc st) .none kV doc pm an js ct):=⟨⟨oc,od,kV,doc,pm,an,js,ct,IV,rfl,l,c⟩,k⟩
end
theorem iY{A:Around}{k:Nat}(hr:kD k A):A.units+1<cLine:=abc (Nat.add_le_add_left (by decide:1≤64) _) hr.units
section
variable{X:Cx}
theorem pv(i:Nat){x:Str}{pos:Pos}(hN:X.N[i]?=some x:=by rfl)(hv:Vz X.env.scope x:=by first|exact Or.inl rfl|exact Or.inr (Or.inl rfl)|exact Or.inr (Or.inr rfl))(hd:(x ==("__debug__":Str))=false:=by decide)
 (Cg:(x ==("__classdict__":Str))=false:=by decide):PE X (.Name x pos) (Rn i):=Oc hN hv hd Cg
end
theorem jz{A B:Prop}(h:B):if false=true then A else B:=by
 rw[aak aah]
 exact h
theorem l7{A B:Prop}(h:A):if true=true then A else B:=by
 rw[aap rfl]
 exact h
theorem lE{c A B:Prop}[Decidable c](h1:c→A)(h2:¬c→B):if c then A else B:=by
 by_cases h:c
 ·rw[aap h]
  exact h1 h
 ·rw[aak h]
  exact h2 h
def gm(H H':Hp):Prop:=∀b o,H b=some o→H' b=some o
theorem gm.refl(H:Hp):gm H H:=fun _ _ h=>h
theorem gm.trans{H H1 H2:Hp}(a:gm H H1)(b:gm H1 H2):gm H H2:=fun c o h=>b c o (a c o h)
theorem gm.free{H H':Hp}(e:gm H H'){l:Addr}(h:H' l=Option.none):H l=Option.none:=by
 cases q:H l with
 | none=>rfl
 | some o=>
  rw[e l o q] at h
  cases h
section
variable{κ:Type}[DecidableEq κ]
theorem wF{p:κ×V}{r:List (κ×V)}{k:κ}(e:p.1=k):jT (p::r) k=jT r k:=by
 unfold jT
 rw[abA,aak (by simp[e])]
theorem wG{p:κ×V}{r:List (κ×V)}{k:κ}(e:¬p.1=k):jT (p::r) k=p::jT r k:=by
 unfold jT
 rw[abA,aap (by simp[e])]
end
section
variable{prog:Program}{w:World}{A:Around}{R:Result→Shared→Prop}{s:Shared}
abbrev L4:Qqq:=fun _ _=>False
theorem Cu{elt target iter:Expr}{ifs:List Expr}{scope:Scope}{pos:Pos}{it acc:Value}{env:Env}(I:Nat→Shared→Prop)
  (turn:∀n s,I n s→wpAny (model prog w) A (pyNext it) (fun r s1=>match r with
   | none=>R (.ok .next) s1
   | some v=>wpAny (model prog w) A (letOwnedTupleGo target it v) (fun _ ZU=>wpAny (model prog w) A (assign target env v) (fun _ s2=>
    wpAny (model prog w) A (forIn ifs true fun c r=>if r=true then do let ok ←isTrue c env (eval c env);pure (ForInStep.yield ok) else pure (ForInStep.yield r)) (fun ok s3=>
     if ok=true then wpAny (model prog w) A (eval elt env) (fun x s4=>wpAny (model prog w) A (call (.builtin "list.append") [acc,x]) (fun _ s5=>∃m,m<n∧I m s5) L4 s4) L4 s3
     else ∃m,m<n∧I m s3) L4 s2) L4 ZU) L4 s1) L4 s)
  (n:Nat) (h:I n s):codeAny (model prog w) A (.compLoop (.ListComp elt [⟨target,iter,ifs,0⟩] scope pos) 0 it acc env) R s:=by
 refine codeAny_loop rfl I (fun n s hI=>?_) n h
 show wpAny _ A ((compTurn (.ListComp elt [⟨target,iter,ifs,0⟩] scope pos) 0 it acc env).onRaise (fun x=>do noteFrame x env;theTreesLotGoes x)) _ _ s
 refine wpAny_noted ?_
 rw[compTurn_list]
 refine V8 (wpAny_standAt (V8 (abt (turn n s hI) (fun r s1 h1=>?_) fun _ _ h'=>h'.elim)))
 cases r with
 | none=>exact aao h1
 | some v=>
  refine V8 (abt h1 (fun _ ZU MY=>?_) fun _ _ h'=>h'.elim)
  refine V8 (abt MY (fun _ s2 h2=>V8 (abt h2 (fun ok s3 h3=>?_) fun _ _ h'=>h'.elim)) fun _ _ h'=>h'.elim)
  cases ok with
  | false=>exact aao ⟨rfl,h3⟩
  | true=>
   exact V8 (V8 (abt h3 (fun x s4 h4=>V8 (abt h4 (fun _ s5 h5=>aao (aao ⟨rfl,h5⟩)) fun _ _ h'=>h'.elim)) fun _ _ h'=>h'.elim))
end
noncomputable def ju(cells:List (Str×Addr)):List (Str×NameKind)→List (Str×Addr)→List (Str×Addr)
 | [],cs=>cs
 | (n,k)::r,cs=>ju cells r (if k ==.free then(n,(cells.lookup n).getD 0)::cs else cs)
theorem BI{cells:List (Str×Addr)}:∀{names:List (Str×NameKind)} {cs:List (Str×Addr)} {x:Str} {c:Addr},(∀y∈names,y.2=.free→∃c,cells.lookup y.1=some c)→
  (ju cells names cs).lookup x=some c→cs.lookup x=some c∨cells.lookup x=some c
 | [],_,_,_,_,h=>.inl h
 | (n,k)::r,cs,x,c,hf,h=>by
  rcases BI (fun y hy=>hf y (aad _ hy)) (show(ju cells r (if k ==.free then(n,(cells.lookup n).getD 0)::cs else cs)).lookup x=some c from h) with q|q
  ·by_cases hk:(k ==NameKind.free)=true
   ·rw[aap hk] at q
    by_cases hx:(x ==n)=true
    ·rw[ab0,hx] at q
     obtain⟨c',e⟩:=hf (n,k) aat (eq_of_beq hk)
     have e:cells.lookup n=some c':=e
     rw[e] at q
     have q:some c'=some c:=q
     rw[eq_of_beq hx,e,q]
     exact .inr rfl
    ·rw[ab0,abE.mpr hx] at q
     exact .inl q
   ·rw[aak hk] at q
    exact .inl q
  ·exact .inr q
theorem zu{cells:List (Str×Addr)}:∀{names:List (Str×NameKind)} {cs:List (Str×Addr)} {x:Str},(∃c,cs.lookup x=some c)→∃c,(ju cells names cs).lookup x=some c
 | [],_,_,h=>h
 | (n,k)::r,cs,x,h=>by
  refine zu (names:=r) ?_
  by_cases hk:(k ==NameKind.free)=true
  ·rw[aap hk,ab0]
   cases x ==n with
   | true=>exact⟨_,rfl⟩
   | false=>exact h
  ·rw[aak hk];exact h
theorem wH{cells:List (Str×Addr)}:∀{names:List (Str×NameKind)} {cs:List (Str×Addr)} {x:Str},(x,NameKind.free)∈names→∃c,(ju cells names cs).lookup x=some c
 | [],_,_,h=>nomatch h
 | (n,k)::r,cs,x,h=>by
  rcases W3.mp h with e|h2
  ·cases e
   refine zu (names:=r) ⟨(cells.lookup n).getD 0,?_⟩
   rw[aap (by rfl),ab0,beq_self_eq_true]
  ·exact wH (names:=r) h2
theorem tK{scope:Scope}{env:Env}(hf:∀y∈scope.names,y.2=.free→∃c,env.cells.lookup y.1=some c):closureFor scope env=pure (ju env.cells scope.names []):=by
 have key:∀(names:List (Str×NameKind))(cs:List (Str×Addr)),(∀y∈names,y.2=.free→∃c,env.cells.lookup y.1=some c)→
   (forIn names cs fun(x:Str×NameKind) (r:List (Str×Addr))=>(match x with
    | (name,kind)=>if(kind ==NameKind.free)=true then(do let a ←cellOf env name;pure (ForInStep.yield ((name,a)::r))) else pure (ForInStep.yield r):Sem (ForInStep (List (Str×Addr)))))=(pure (ju env.cells names cs):Sem (List (Str×Addr))):=by
  intro names
  induction names with
  | nil=>intro cs _;rfl
  | cons y r ih=>
   intro cs h
   obtain⟨n,k⟩:=y
   rw[List.forIn_cons]
   by_cases hk:(k ==NameKind.free)=true
   ·obtain⟨c,e⟩:=h (n,k) aat (eq_of_beq hk)
    have e:env.cells.lookup n=some c:=e
    have ec:cellOf env n=pure c:=by unfold cellOf;rw[e]
    simp only [hk,if_true,ec,pure_bind]
    rw[ih _ fun y hy=>h y (aad _ hy)]
    simp only [ju,hk,if_true,e,Option.getD_some]
   ·simp only [hk,ab5,pure_bind,aa1]
    rw[ih _ fun y hy=>h y (aad _ hy)]
    simp only [ju,hk,ab5,aa1]
 have q:=key scope.names [] hf
 simp only [closureFor]
 first
  | (rw[q];rfl)
  | (simp only [q,pure_bind])
  | exact(aa4 (fun t=>t >>= pure) q).trans (pure_bind _ _)
theorem qS{f:Str→NameKind→NameKind}:∀{names:List (Str×NameKind)} {x:Str},(names.map fun y=>(y.1,f y.1 y.2)).lookup x=(names.lookup x).map (f x)
 | [],_=>rfl
 | (n,k)::r,x=>by
  show List.lookup x ((n,f n k)::_)=_
  rw[ab0,ab0]
  cases h:x ==n with
  | true=>rw[eq_of_beq h];rfl
  | false=>exact qS (names:=r)
theorem lI{scope:Scope}{env:Env}{x:Str}:(relabel scope env).names.lookup x=(scope.names.lookup x).map fun k=>if(k ==.free&&env.scope.kind ==.function&&env.kindOf x ==some .cell)=true then .cell else k:=by
 have e:(relabel scope env).names=scope.names.map fun y=>(y.1,(fun(n:Str) (k:NameKind)=>if(k ==.free&&env.scope.kind ==.function&&env.kindOf n ==some .cell)=true then NameKind.cell else k) y.1 y.2):=by
  show(scope.names.map _)=_
  refine abZ fun y _=>?_
  obtain⟨n,k⟩:=y
  show(if(k ==.free&&env.scope.kind ==.function&&env.kindOf n ==some .cell)=true then(n,NameKind.cell) else(n,k))=(n,if(k ==.free&&env.scope.kind ==.function&&env.kindOf n ==some .cell)=true then NameKind.cell else k)
  split<;>rfl
 rw[e]
 exact qS (f:=fun(n:Str) (k:NameKind)=>if(k ==.free&&env.scope.kind ==.function&&env.kindOf n ==some .cell)=true then NameKind.cell else k)
noncomputable def blank:List Nat→St→St
 | [],σ=>σ
 | i::r,σ=>blank r (σ.set i none)
theorem BJ:∀{is:List Nat} {σ:St},(blank is σ).length=σ.length
 | [],_=>rfl
 | i::r,σ=>by
  show(blank r (σ.set i none)).length=_
  rw[BJ,acj]
theorem Cv{σ:St}{i j:Nat}{v:V}(h:(σ.set i none)[j]?=some (some v)):σ[j]?=some (some v)∧j≠i:=by
 by_cases e:j=i
 ·subst e
  by_cases hl:j<σ.length
  ·rw[abd hl] at h;cases h
  ·rw[List.getElem?_eq_none_iff.mpr (by rw[acj];omega)] at h;cases h
 ·rw[abn (abJ e)] at h
  exact⟨h,e⟩
theorem BK:∀{is:List Nat} {σ:St} {j:Nat} {v:V},(blank is σ)[j]?=some (some v)→σ[j]?=some (some v)∧j∉is
 | [],_,_,_,h=>⟨h,by simp⟩
 | i::r,σ,j,v,h=>by
  obtain⟨h1,h2⟩:=BK (is:=r) (σ:=σ.set i none) h
  obtain⟨h3,h4⟩:=Cv h1
  exact⟨h3,fun m=>(W3.mp m).elim h4 h2⟩
noncomputable def HP(N:List Str)(out:List (Str×NameKind))(is:List Nat)(names:List (Str×NameKind)):Bool:=
 (names.all fun y=>y.2 != .cell&&(y.2 != .free||out.lookup y.1 ==some .cell||out.lookup y.1 ==some .free)&&(y.2 != .local||names.lookup y.1 ==some .local))&&
 (N.zipIdx.all fun p=>names.lookup p.1 != some .local||is.contains p.2)
structure Cw(N:List Str)(out:List (Str×NameKind))(is:List Nat)(names:List (Str×NameKind)):Prop where
 FN:∀y∈names,y.2≠.cell
 free:∀y∈names,y.2=.free→out.lookup y.1=some .cell∨out.lookup y.1=some .free
 loc:∀y∈names,y.2=.local→names.lookup y.1=some .local
 own:∀(i:Nat)(x:Str),N[i]?=some x→names.lookup x=some .local→i∈is
theorem Cw.of{N:List Str}{out:List (Str×NameKind)}{is:List Nat}{names:List (Str×NameKind)}(h:HP N out is names=true):Cw N out is names:=by
 unfold HP at h
 rw[abp] at h
 obtain⟨h1,h2⟩:=h
 have a:=abK.mp h1
 have b:=abK.mp h2
 refine⟨fun y hy e=>?_,fun y hy e=>?_,fun y hy e=>?_,fun i x hi e=>?_⟩
 ·have q:=a y hy
  rw[e] at q
  simp at q
 ·have q:=a y hy
  simp only [e,abp,ack,bne_self_eq_false,aa1,false_or,ab2] at q
  rcases q.1.2 with z|z
  ·exact .inl z
  ·exact .inr z
 ·have q:=a y hy
  simp only [e,abp,ack,bne_self_eq_false,aa1,false_or,ab2] at q
  exact q.2
 ·have hm:(x,i)∈N.zipIdx:=by
   rw[aaO]
   exact⟨i,by rw[List.getElem?_zipIdx,hi];simp⟩
  have q:=b (x,i) hm
  simp only [e,ack,bne_self_eq_false,aa1,false_or] at q
  exact List.contains_iff_mem.mp q
noncomputable def Cx.block(X:Cx)(scope:Scope)(cl:List (Str×Addr))(C:Addr)(s:Shared)(H:Hp)(ex:List Addr):Cx:=
 {X with env:=compEnvC scope cl C X.env,s₀:=s,H₀:=H,outer:=X.stack,ex:=ex,fn:=fun _=>false,pn:=[],xe:=L4}
section
variable{X:Cx}{c_:Qqz}{σ:St}{H:Hp}{s:Shared}{scope:Scope}{is:List Nat}{ex:List Addr}{C:Addr}
theorem zv(I:Inv X c_ σ H s)(hs:Cw X.N X.env.scope.names is scope.names):∀y∈scope.names,y.2=.free→∃c,X.env.cells.lookup y.1=some c:=fun y hy e=>I.ok.has y.1 (hs.free y hy e)
theorem mK(I:Inv X c_ σ H s)(hs:Cw X.N X.env.scope.names is scope.names){x:Str}{c:Addr}(h:(ju X.env.cells scope.names []).lookup x=some c):X.env.cells.lookup x=some c:=
 (BI (zv I hs) h).resolve_left fun z=>nomatch z
theorem Jx(I:Inv X c_ σ H s)(hs:Cw X.N X.env.scope.names is scope.names)(hk:scope.kind=.function)(hC:s.heap.objs.size≤C)(hf:∀b∈ex,uj X c_ H b)(ho:∀b∈ex,∃o,s.heap.get? b=some o) :
  (X.block scope (ju X.env.cells scope.names []) C s H ex).Ok where
 mod:=I.ok.mod
 kind:=hk
 glob:=I.ok.glob
 blt:=I.ok.blt
 above:=hC
 inj:=fun x y c h1 h2=>I.ok.inj x y c (mK I hs h1) (mK I hs h2)
 has:=fun x hx=>by
  have hx:(relabel scope X.env).names.lookup x=some .cell∨(relabel scope X.env).names.lookup x=some .free:=hx
  rw[lI] at hx
  cases e:scope.names.lookup x with
  | none=>
   rw[e] at hx
   rcases hx with z|z<;>cases z
  | some k=>
   have hm:(x,k)∈scope.names:=abw e
   have hk:k=.free:=by
    rw[e] at hx
    cases k with
    | free=>rfl
    | cell=>exact absurd rfl (hs.FN _ hm)
    | _=>rcases hx with z|z<;>simp at z
   subst hk
   exact wH hm
 QH:=fun _ _ h=>Bool.noConfusion h
 hd:=I.ok.hd
 frames:=I.ok.frames
 Rj:=.inl rfl
 VA:=fun b hb=>by
  obtain⟨o,e⟩:=ho b hb
  exact⟨aaT (aaE (aax e) hC),fun x c h=>(hf b hb).2.2.2.2.1 x c (mK I hs h)⟩
 bs:=I.bs
 LM:=aac I.ok.LM I.sz
 tF:=fun b o e hb=>by
  rcases(hf b hb).2.2.2.1 with z|z
  ·exact I.ok.tF b o e z
  ·exact absurd (aaE (aax (I.ok.bs b o e).1) z) (abm _)
 Jc:=fun b hb hm=>by
  rcases W3.mp (I.wz b hm) with z|z
  ·exact(hf b hb).2.1 z
  ·exact(hf b hb).2.2.1 z
 uU:=I.stack
 Ni:=I.Cn
theorem HQ{h':Heap}{t':Nat}{pl:Qqz}(I:Inv X c_ σ H s)(hs:Cw X.N X.env.scope.names is scope.names)(hk:scope.kind=.function)(hC:s.heap.objs.size≤C)(hf:∀b∈ex,uj X c_ H b)(ho:∀b∈ex,∃o,s.heap.get? b=some o)
  (old:∀b o,s.heap.get? b=some o→h'.get? b=some o) {m:Qqx} (hn:h'.Ns C m)
  (hp:∀p∈pl,h'.get? p.1=some p.2∧s.heap.objs.size≤p.1∧p.1≠C∧∀v,p.2.data≠.cell v) :
  Inv (X.block scope (ju X.env.cells scope.names []) C s H ex) pl (blank is σ) H {s with heap:=h',toks:=t'} where
 ok:=Jx I hs hk hC hf ho
 os:=rfl
 bare:=I.bare
 base:=Un.kept old
 loc:=⟨m,hn,fun i x v h1 h2 h3=>by
  have h3:(relabel scope X.env).names.lookup x=some .local∨(relabel scope X.env).names.lookup x=some .cell∨(relabel scope X.env).names.lookup x=some .free:=h3
  obtain⟨h2,hi⟩:=BK h2
  have h1:X.N[i]?=some x:=h1
  cases e:scope.names.lookup x with
  | none=>
   rw[lI,e] at h3
   rcases h3 with z|z|z<;>cases z
  | some k=>
   have hm:(x,k)∈scope.names:=abw e
   have hk:k=.free:=by
    rw[lI,e] at h3
    cases k with
    | free=>rfl
    | cell=>exact absurd rfl (hs.FN _ hm)
    | «local»=>exact absurd (hs.own i x h1 e) hi
    | _=>rcases h3 with z|z|z<;>simp at z
   subst hk
   have hv:X.env.scope.names.lookup x=some .cell∨X.env.scope.names.lookup x=some .free:=hs.free _ hm rfl
   obtain⟨m0,_,hl⟩:=I.loc
   obtain⟨u,r,q⟩:=hl i x v h1 h2 (.inr hv)
   refine⟨u,r,.inr ⟨?_,?_⟩⟩
   ·show(relabel scope X.env).names.lookup x=some .cell∨(relabel scope X.env).names.lookup x=some .free
    rw[lI,e]
    show some (if _ then NameKind.cell else NameKind.free)=_∨some (if _ then NameKind.cell else NameKind.free)=_
    split
    ·exact .inl rfl
    ·exact .inr rfl
   ·rcases q with⟨z,_⟩|⟨_,c,ec,cc⟩
    ·have z:X.env.scope.names.lookup x=some .local:=z
     rcases hv with hv|hv<;>rw[hv] at z<;>cases z
    ·obtain⟨c',e'⟩:=wH (cells:=X.env.cells) (cs:=[]) hm
     have e2:=mK I hs e'
     rw[ec] at e2
     cases e2
     obtain⟨o,ho,hd⟩:=cc
     exact⟨c,e',o,old _ _ ho,hd⟩⟩
 cell:=fun x c h=>by
  obtain⟨v,o,ho,hd⟩:=I.cell x c (mK I hs h)
  exact⟨v,o,old _ _ ho,hd⟩
 free:=I.iP.fresh hC
 pJ:=fun x c h=>I.pJ x c (mK I hs h)
 pin:=fun p WJ=>by
  obtain⟨h1,h2,h3,h4⟩:=hp p (by simpa[Cx.block] using WJ)
  refine⟨h1,I.iP.fresh h2,h3,fun hm=>?_,h4⟩
  rcases W3.mp (I.wz p.1 hm) with z|z
  ·exact absurd (aaE I.lt (by rw[←z];exact h2)) (abm _)
  ·exact I.Rl h2 z
 iP:=I.iP.kept old
 len:=by rw[BJ];exact I.len
end
theorem lJ{X:Cx}{scope:Scope}{cl:List (Str×Addr)}{C:Addr}{s:Shared}{H:Hp}{ex:List Addr}:(X.block scope cl C s H ex).K=X.K:=rfl
theorem PE.eqv{X:Cx}{e:Expr}{t t':TE}(h:PE X e t')(q:t'=t):PE X e t:=q▸h
def OK(X:Cx)(ifs:List Expr)(t:TT):Prop:=
 ∀(c_:Qqz)(s:Shared)(σ:St)(H:Hp)(Q:Bool→Hp→Prop),Inv X c_ σ H s→t σ H Q→
  wpAny (model X.prog X.w) X.A (forIn ifs true fun c r=>if r=true then do let ok ←isTrue c X.env (eval c X.env);pure (ForInStep.yield ok) else pure (ForInStep.yield r)) (TP X c_ σ Q) X.xe s
def V5:TT:=fun _ H Q=>Q true H
theorem mj{X:Cx}:OK X [] V5:=fun _ _ _ H _ I h=>wpAny_tests_nil ⟨H,I,h⟩
theorem qi{X:Cx}{c:Expr}{t:TT}(h:PT X c t):OK X [c] t:=fun c_ s σ H Q I hw=>wpAny_tests_one (h c_ s σ H Q I hw)
def HR(g:TG)(tt:TT)(te:TE)(J:It)(Q:List V→Hp→Prop)(σ:St)(H:Hp):Prop:=
 ∃W:Nat→Nat→List V→St→Hp→Prop,(∃m,W 0 m [] σ H)∧∀i m ys σ H,W i m ys σ H→
  (J.stop i H∧ys.length≤sizeLine∧Q ys H)∨
  (J.go i H∧ys.length≤sizeLine∧∃N:List V→St→Hp→Prop,(∀QU σ' H',N QU σ' H'→∃m',m'<m∧W (i+1) m' QU σ' H')∧
   ∀x H',J.Jg i H x H'→g x σ H' fun σ2 H2=>tt σ2 H2 fun b H3=>if b=true then te σ2 H3 fun v H4=>N (ys++[v]) σ2 H4 else N ys σ2 H3)
def UJ(is:List Nat)(wi:TI)(g:TG)(tt:TT)(te:TE):TE:=fun σ H Q=>wi σ H fun J H1=>HR g tt te J (fun ys H2=>∀p,H2 p=none→Q (.ref p) (upd H2 p (.lst ys))) (blank is σ) H1
section
variable{P:Program}{w:World}
theorem rh.RN{H:Hp}{h:Heap}{a:Addr}{o:HO}(x:rh P w H h)(hn:H a=none)(new:i9 P w (upd H a o) h a o):rh P w (upd H a o) h:=fun b u q=>by
 by_cases hb:b=a
 ·subst hb;rw[b_] at q;cases q;exact new
 ·rw[e_ hb] at q
  exact(x b u q).zh (fun _ _ _ r=>r) (fun c r=>by rw[e_ (gj r hn)];exact r) fun c xs r=>by rw[e_ (gj r hn)];exact r
end
noncomputable abbrev Cy(ys:List Value)(n:Nat):Obj:={cls:=.type "list",data:=.seq ys.toArray n}
section
variable{X:Cx}{c_:Qqz}{σ:St}{H:Hp}{s:Shared}{scope:Scope}{is:List Nat}
theorem BL{E:Qqq}{elt tg iter:Expr}{ifs:List Expr}{pos:Pos}{it:Addr}{fp:List Addr}{tn:Nat→Heap→Prop}{J:It}{g:TG}{tt:TT}{te:TE}{Fin:List V→Hp→Prop}{RR:Value→Addr→Result→Shared→Prop}
  (I:Inv X c_ σ H s) (hc:X.calm=true) (hs:Cw X.N X.env.scope.names is scope.names) (hk:scope.kind=.function)
  (hg:∀C s H ex,PG (X.block scope (ju X.env.cells scope.names []) C s H ex) tg g) (ht:∀C s H ex,OK (X.block scope (ju X.env.cells scope.names []) C s H ex) ifs tt)
  (he:∀C s H ex,PE (X.block scope (ju X.env.cells scope.names []) C s H ex) elt te)
  (T:Turn X.prog X.w X.K tg J fp it tn) (st:tn 0 s.heap) (hf:∀b∈fp,uj X c_ H b) (h:HR g tt te J Fin (blank is σ) H)
  (hRR:∀(D C:Addr)(ys:List V)(ib:List Value)(n:Nat)(H':Hp)(s':Shared)(m:Qqx),s.heap.objs.size≤D→s.heap.objs.size≤C→D≠C→s'.heap.Ns C m→s'.heap.get? D=some (Cy ib n)→Vals ys ib→ys.length≤sizeLine→
   H' D=none→H' C=none→s'.os=s.os→AllBare s'.gens→Un (uf X.stack) fp H H' s.heap s'.heap→rh X.prog X.w H' s'.heap→Fin ys H'→RR (.ref D) C (.ok .next) s') :
  wpAny (model X.prog X.w) X.A (newList []) (fun acc s3=>wpAny (model X.prog X.w) X.A (newFunctionEnv scope X.env.globals (ju X.env.cells scope.names []) [] X.env.qual none .none (some X.env)) (fun SX s4=>
   codeAny (model X.prog X.w) X.A (.compStart (.ListComp elt [⟨tg,iter,ifs,0⟩] scope pos) 0 (.ref it) acc {SX with scope:=relabel scope X.env}) (RR acc SX.locals) s4) E s3) E s:=by
 refine wpAny_newObj_type (wpAny_newFunctionEnv hs.FN (by intro y hy;simp at hy) (fun h1 P6 MZ=>?_) hk)
 dsimp only at P6 MZ ⊢
 generalize WK:s.heap.push {cls:=.type "list",dict:=none,data:=.seq ([]:List Value).toArray}=H2 at P6 MZ ⊢
 have hC:H2.objs.size=s.heap.objs.size+1:=by rw[←WK,Heap.size_push]
 have M0:s.heap.objs.size≠H2.objs.size:=by rw[hC];exact aaT (acf _)
 have SY:s.heap.objs.size≤H2.objs.size:=by rw[hC];exact Nat.le_succ _
 have below:∀b,b<s.heap.objs.size→b≠H2.objs.size∧b≠s.heap.objs.size:=fun b hb=>⟨by rw[hC];exact aaT (Nat.lt_succ_of_lt hb),aaT hb⟩
 have old:∀b o,s.heap.get? b=some o→h1.get? b=some o:=fun b o e=>MZ.extBut b o (below b (aax e)).1 (aag _ (WK▸aag _ e))
 have AA:h1.get? s.heap.objs.size=some (Cy [] 0):=MZ.extBut _ _ M0 (aag _ (WK▸aaC _ rfl))
 have WL:∀b∈fp,∃o,s.heap.get? b=some o:=fun b hb=>let ⟨o,e,_⟩:=T.obj 0 _ st b hb;⟨o,e⟩
 have ZV:∀b∈fp,b≠s.heap.objs.size:=fun b hb=>let ⟨o,e⟩:=WL b hb;(below b (aax e)).2
 have hfC:∀b∈fp,b≠H2.objs.size:=fun b hb=>let ⟨o,e⟩:=WL b hb;(below b (aax e)).1
 generalize hD:s.heap.objs.size=D at *
 generalize hCC:H2.objs.size=C at *
 have S6:∀x c,(ju X.env.cells scope.names []).lookup x=some c→c≠D:=fun x c e z=>by
  obtain⟨v,q⟩:=I.cell x c (mK I hs e)
  exact absurd q.lt (by rw[z,hD];exact abm _)
 let XB:=X.block scope (ju X.env.cells scope.names []) C s H fp
 have I1:Inv XB [(D,Cy [] 0)] (blank is σ) H {s with heap:=h1,toks:=s.toks+([]:List (Str×Value)).length}:=
  HQ I hs hk (by rw[hD];exact SY) hf WL old P6 fun p hp=>by
   rw[Tq.mp hp]
   exact⟨AA,Nat.le_of_eq hD,M0,fun v z=>nomatch z⟩
 have WM:∀{pl:Qqz} {H':Hp},(∀p∈pl,p.1=D)→(∀b∈fp,H' b=none)→∀b∈fp,uj XB pl H' b:=fun{pl H'} qg hn b hb=>
  ⟨hn b hb,hfC b hb,fun hm=>by
   rcases W3.mp (I.wz b hm) with z|z
   ·exact(hf b hb).2.1 z
   ·exact(hf b hb).2.2.1 z,.inl hb,fun x c e=>(hf b hb).2.2.2.2.1 x c (mK I hs e),fun p hp=>by
   have hp:p∈pl:=by simpa[XB,Cx.block] using hp
   rw[qg p hp]
   exact abJ (ZV b hb)⟩
 obtain⟨W,⟨m0,w0⟩,turn⟩:=h
 have IJ:tn 0 h1:=T.keep _ _ _ st fun b _ o e=>old b o e
 have loop:codeAny (model X.prog X.w) X.A (.compLoop (.ListComp elt [⟨tg,iter,ifs,0⟩] scope pos) 0 (.ref it) (.ref D) (compEnvC scope (ju X.env.cells scope.names []) C X.env)) (RR (.ref D) C) {s with heap:=h1,toks:=s.toks+([]:List (Str×Value)).length}:=by
  refine Cu (fun k s'=>∃i ys ib n σ' H',Inv XB [(D,Cy ib n)] σ' H' s'∧Vals ys ib∧tn i s'.heap∧(∀b∈fp,H' b=none)∧W i k ys σ' H') ?_ m0 ⟨0,[],[],0,_,_,I1,.nil,IJ,fun b hb=>(hf b hb).1,w0⟩
  rintro k s3 ⟨i,ys,ib,n,σ3,H3,I3,vs,wx,SN,w3⟩
  have qg:∀p∈[(D,Cy ib n)],p.1=D:=fun p hp=>by rw[Tq.mp hp]
  rcases turn i k ys σ3 H3 w3 with⟨stop,hz,qn⟩|⟨go,hz,N,hN,step⟩
  ·refine i8 (T.done XB rfl rfl rfl hc i _ s3 σ3 H3 L4 I3 (WM qg SN) wx stop) fun r s4 iM=>?_
   obtain⟨hr,I4⟩:=iM
   subst hr
   obtain⟨m',QT,_⟩:=I4.loc
   have pD:=I4.pin (D,Cy ib n) (by simp[XB,Cx.block])
   exact hRR D C ys ib n H3 s4 m' (ZA _) SY M0 QT pD.1 vs hz pD.2.1 I4.free I4.os I4.bare I4.base I4.iP qn
  ·refine i8 (T.item XB rfl rfl rfl hc i _ s3 σ3 H3 L4 I3 (WM qg SN) wx go) fun r s4 iM=>?_
   obtain⟨u,hr,h4⟩:=iM
   subst hr
   refine i8 h4 fun _ s5 iM=>?_
   obtain⟨x,H5,I5,r5,y5,PZ,Ww⟩:=iM
   have Wx:=I5.pinned (WM qg Ww) (T.obj _ _ PZ)
   refine i8 (hg C s H fp _ s5 σ3 H5 x u _ Wx r5 (step x H5 y5)) fun _ s6 iM=>?_
   obtain⟨σ6,H6,I6,q6⟩:=iM
   have Ci:∀{σ7:St} {H7:Hp} {s7:Shared},Inv XB ([(D,Cy ib n)]++zl fp s5.heap) σ7 H7 s7→tn (i+1) s7.heap∧∀b∈fp,H7 b=none:=fun{σ7 H7 s7} I7=>
    ⟨T.keep _ _ _ PZ fun b hb o e=>(I7.pin (b,o) (aaG _ (aaG _ (qh hb e)))).1,fun b hb=>by
     obtain⟨o,e,d⟩:=T.obj _ _ PZ b hb
     exact(I7.pin (b,o) (aaG _ (aaG _ (qh hb e)))).2.1⟩
   refine i8 (ht C s H fp _ s6 σ6 H6 _ I6 q6) fun ok s7 iM=>?_
   obtain⟨H7,I7,q7⟩:=iM
   cases ok with
   | false=>
    rw[aak aah] at q7 ⊢
    obtain⟨m',hm,w7⟩:=hN _ _ _ q7
    exact⟨m',hm,i+1,ys,ib,n,σ6,H7,I7.uX,vs,(Ci I7).1,(Ci I7).2,w7⟩
   | true=>
    rw[aap rfl] at q7 ⊢
    refine i8 (he C s H fp _ s7 σ6 H7 _ I7 q7) fun y s8 iM=>?_
    obtain⟨v,H8,I8,r8,n8⟩:=iM
    obtain⟨m',hm,w8⟩:=hN _ _ _ n8
    obtain⟨st8,fr8⟩:=Ci I8
    have pD:=I8.pin (D,Cy ib n) (by simp)
    have hl:=vs.length
    refine append_at (hsz:=by show ib.toArray.size≤sizeLine;rw[aai,←hl];exact hz) pD.1 fun h9 ZW e9=>?_
    have I9:Inv XB [] σ6 H8 {s8 with heap:=h9}:=by
     have J8:Inv XB [] σ6 H8 s8:=I8.yX fun p hp=>nomatch hp
     exact J8.turned (t':=s8.toks) (it:=D) (fun b o hb e=>ZW.extBut b o hb e) pD.2.1 M0 (.inr (Nat.le_of_eq hD)) (fun x c e=>S6 x c e) fun p hp=>by simp[XB,Cx.block] at hp
    refine⟨m',hm,i+1,ys++[v],ib++[y],n+1,σ6,H8,I9.yX fun p hp=>?_,vs.append (.cons r8 .nil),T.keep _ _ _ st8 fun b hb o e=>ZW.extBut b o (ZV b hb) e,fr8,w8⟩
    rw[Tq.mp hp]
    refine⟨?_,pD.2.1,M0,fun hm=>?_,fun v z=>nomatch z⟩
    ·rw[e9]
     show some _=some _
     rw[List.push_toArray]
    ·exact pD.2.2.2.1 hm
 exact codeAny_compStart_list loop (T.self _ 0 _ _ _ IJ loop)
variable{elt tg iter:Expr}{ifs:List Expr}{pos La py:Pos}{wi:TI}{g:TG}{tt:TT}{te:TE}
theorem xJ{D:Addr}{ys:List V}{ib:List Value}{n:Nat}{H':Hp}{s':Shared}{fp:List Addr}(I:Inv X c_ σ H s)(hf:∀b∈fp,uj X c_ H b)(hD:s.heap.objs.size≤D)(e:s'.heap.get? D=some (Cy ib n))(vs:Vals ys ib)(hz:ys.length≤sizeLine)
  (nD:H' D=none) (os:s'.os=s.os) (bare:AllBare s'.gens) (un:Un (uf X.stack) fp H H' s.heap s'.heap) (iP:rh X.prog X.w H' s'.heap):Inv X c_ σ (upd H' D (.lst ys)) s':=by
 have neD:∀b o,s.heap.get? b=some o→b≠D:=fun b o q=>aaT (aaE (aax q) hD)
 refine I.Rm (ch:=fp) os ⟨un.keep,un.slot,fun b o q nn hx=>by rw[e_ (neD b o q)];exact un.free b o q nn hx,un.there,fun b xs q=>?_,fun b o u q=>?_,fun b ps q=>?_⟩ (iP.RN nD ⟨hz,ib,n,vs,e⟩) bare fun b hb=>?_
 ·have q':=un.rj b xs q
  rw[e_ (gj q' nD)];exact q'
 ·have q':=un.uT b o u q
  rw[e_ (gj q' nD)];exact q'
 ·obtain⟨more,q'⟩:=un.yF b ps q
  exact⟨more,by rw[e_ (gj q' nD)];exact q'⟩
 ·obtain⟨f0,f1,f2,f3,f4,f5⟩:=hf b hb
  exact⟨f3,f1,f4,f5⟩
theorem zw{C:Addr}{h':Heap}{s0:Shared}(I:Inv X c_ σ H s)(hC:s0.heap.objs.size≤C)(nC:H C=none)(S7:Heap.SameBut C s.heap h')(I0:∃σ0 H0,Inv X c_ σ0 H0 s0):Inv X c_ σ H {s with heap:=h'}:=by
 obtain⟨σ0,H0,I0⟩:=I0
 obtain⟨_,f1,_,f3,f4,f5⟩:=I0.zi (H':=fun _=>none) hC rfl
 exact I.turned (t':=s.toks) (fun b o hb e=>S7.extBut b o hb e) nC f1 f3 f4 f5
theorem xK(N:List Str)(out:List (Str×NameKind))(is:List Nat)(hc:X.calm=true)(hi:PI X tg iter wi)(hk:scope.kind=.function)(hs:HP N out is scope.names=true)
  (hg:∀C s H ex,PG (X.block scope (ju X.env.cells scope.names []) C s H ex) tg g) (ht:∀C s H ex,OK (X.block scope (ju X.env.cells scope.names []) C s H ex) ifs tt)
  (he:∀C s H ex,∃t,PE (X.block scope (ju X.env.cells scope.names []) C s H ex) elt t∧t=te) (yD:∀x,foldedSetIterable iter X.env x=pure x:=by intro _;rfl) (eN:X.N=N:=by rfl) (eo:X.env.scope.names=out:=by rfl) :
  PE X (.ListComp elt [⟨tg,iter,ifs,0⟩] scope pos) (UJ is wi g tt te):=by
 intro c_ s σ H Q I h
 subst eN eo
 have S:=Cw.of hs
 rw[eval_ListComp]
 refine wpAny_comprehension_free (use:=none) rfl yD (tK (zv I S)) hk S.loc (i8 (hi c_ s σ H _ I h) fun v s1 h1=>i8 h1 fun UR s2 h2=>?_)
 obtain⟨it,fp,tn,J,H2,rfl,I2,T,Bq,f2,h2⟩:=h2
 refine BL (RR:=fun acc C=>compPost (model X.prog X.w) X.A X.xe none (EP X c_ σ Q) acc C) I2 hc S hk hg ht (fun C s H ex=>let ⟨_,h,e⟩:=he C s H ex;PE.eqv h e) T Bq f2 h2 ?_
 intro D C ys ib n H' s' m hD hC M0 hn e vs hz nD nC os bare un iP q
 have J1:Inv X c_ σ (upd H' D (.lst ys)) s':=xJ I2 f2 hD e vs hz nD os bare un iP
 refine⟨m,hn,fun h' S7=>⟨.ref D,_,zw J1 hC (by rw[e_ (abJ M0)];exact nC) S7 ⟨_,_,I2⟩,rfl,q D nD⟩⟩
theorem zx{y:Str}{j:Nat}(N:List Str)(out:List (Str×NameKind))(is:List Nat)(hN:X.N.Nodup)(hj:X.N[j]?=some y)(hy:X.env.scope.names.lookup y=some .local)(hc:X.calm=true)(hi:PI X tg iter wi)(hk:scope.kind=.function)(hs:HP N out is scope.names=true)
  (hg:∀C s H ex,PG (X.block scope (ju X.env.cells scope.names []) C s H ex) tg g) (ht:∀C s H ex,OK (X.block scope (ju X.env.cells scope.names []) C s H ex) ifs tt)
  (he:∀C s H ex,∃t,PE (X.block scope (ju X.env.cells scope.names []) C s H ex) elt t∧t=te)
  (WN:swapsWith (.ListComp elt [⟨tg,iter,ifs,0⟩] scope pos) (some (.Name y py)) La.line X.env=pure true:=by rfl) (yD:∀x,foldedSetIterable iter X.env x=pure x:=by intro _;rfl) (eN:X.N=N:=by rfl) (eo:X.env.scope.names=out:=by rfl) :
  PS X (.Assign [.Name y py] (.ListComp elt [⟨tg,iter,ifs,0⟩] scope pos) La) (Jf (UJ is wi g tt te) (ma j)):=by
 intro c_ s σ H Dn I h
 subst eN eo
 have S:=Cw.of hs
 rw[exec_Assign_Name_used _ _ _ _ WN]
 refine V8 (wpAny_standAt (V8 ?_))
 show wpAny _ _ (do let _ ←comprehension (.ListComp elt [⟨tg,iter,ifs,0⟩] scope pos) scope X.env _ (newList []) false (eval iter X.env) (some (assign (.Name y py) X.env))) _ _ s
 refine V8 (abt (wpAny_comprehension_free (use:=some (assign (.Name y py) X.env)) (Q:=fun _ s'=>SP X c_ Dn .next s') rfl yD (tK (zv I S)) hk S.loc
  (i8 (hi c_ s σ H _ I h) fun v s1 h1=>i8 h1 fun UR s2 h2=>?_)) (fun _ s' hq=>aao (aao hq)) fun _ _ e=>e)
 obtain⟨it,fp,tn,J,H2,rfl,I2,T,Bq,f2,h2⟩:=h2
 refine BL (RR:=fun acc C=>compPost (model X.prog X.w) X.A X.xe (some (assign (.Name y py) X.env)) (fun _ s'=>SP X c_ Dn .next s') acc C) I2 hc S hk hg ht (fun C s H ex=>let ⟨_,h,e⟩:=he C s H ex;PE.eqv h e) T Bq f2 h2 ?_
 intro D C ys ib n H' s' m hD hC M0 hn e vs hz nD nC os bare un iP q
 have J1:Inv X c_ σ (upd H' D (.lst ys)) s':=xJ I2 f2 hD e vs hz nD os bare un iP
 show wpAny _ _ (assign (.Name y py) X.env (.ref D)) _ _ _
 refine wpAny_assign_Name (By J1 hN hj (.inl hy) (v:=.ref D) rfl (fun s5 J5 iM=>?_) (.inr hy))
 obtain⟨a,sb,ha⟩:=iM
 have hCa:C≠a:=by
  obtain⟨_,f1,_,f3,f4,f5⟩:=I2.zi (H':=fun _=>none) hC rfl
  rcases ha with z|z
  ·rw[z];exact f1
  ·exact fun q=>f4 _ _ z q.symm
 exact⟨m,hn.sameBut sb hCa,fun h' S7=>⟨_,_,zw J5 hC (by rw[e_ (abJ M0)];exact nC) S7 ⟨_,_,I2⟩,q D nD⟩⟩
end
section
variable{X:Cx}{elt tg iter:Expr}{ifs:List Expr}{scope:Scope}{pos:Pos}{wi:TI}{g:TG}{tt:TT}{te:TE}{py La:Pos}
theorem zy(N:List Str)(out:List (Str×NameKind))(is:List Nat)(hc:X.calm=true)(hi:PI X tg iter wi)(hk:scope.kind=.function)(hs:HP N out is scope.names=true)
 (hg:∀C s H ex,PG (X.block scope (ju X.env.cells scope.names []) C s H ex) tg g) (ht:∀C s H ex,∃t,OK (X.block scope (ju X.env.cells scope.names []) C s H ex) ifs t∧t=tt)
 (he:∀C s H ex,∃t,PE (X.block scope (ju X.env.cells scope.names []) C s H ex) elt t∧t=te) (yD:∀x,foldedSetIterable iter X.env x=pure x:=by intro _;rfl) (eN:X.N=N:=by rfl) (eo:X.env.scope.names=out:=by rfl) :
 PE X (.ListComp elt [⟨tg,iter,ifs,0⟩] scope pos) (UJ is wi g tt te):=xK N out is hc hi hk hs hg (fun C s H ex=>let ⟨_,h,e⟩:=ht C s H ex;e▸h) he yD eN eo
theorem Cz{y:Str}{j:Nat}(N:List Str)(out:List (Str×NameKind))(is:List Nat)(hN:X.N.Nodup)(hj:X.N[j]?=some y)(hy:X.env.scope.names.lookup y=some .local)(hc:X.calm=true)(hi:PI X tg iter wi)(hk:scope.kind=.function)(hs:HP N out is scope.names=true)
 (hg:∀C s H ex,PG (X.block scope (ju X.env.cells scope.names []) C s H ex) tg g) (ht:∀C s H ex,∃t,OK (X.block scope (ju X.env.cells scope.names []) C s H ex) ifs t∧t=tt)
 (he:∀C s H ex,∃t,PE (X.block scope (ju X.env.cells scope.names []) C s H ex) elt t∧t=te)
 (WN:swapsWith (.ListComp elt [⟨tg,iter,ifs,0⟩] scope pos) (some (.Name y py)) La.line X.env=pure true:=by rfl) (yD:∀x,foldedSetIterable iter X.env x=pure x:=by intro _;rfl) (eN:X.N=N:=by rfl) (eo:X.env.scope.names=out:=by rfl) :
 PS X (.Assign [.Name y py] (.ListComp elt [⟨tg,iter,ifs,0⟩] scope pos) La) (Jf (UJ is wi g tt te) (ma j)):=zx N out is hN hj hy hc hi hk hs hg (fun C s H ex=>let ⟨_,h,e⟩:=ht C s H ex;e▸h) he WN yD eN eo
end
theorem rE{lo:Int}{n:Nat}{g:TG}{tt:TT}{te:TE}{Q:List V→Hp→Prop}{σ:St}{H:Hp}(hn:n≤sizeLine)(Pv:Nat→List V→St→Hp→Prop)(h0:Pv 0 [] σ H)(hlen:∀i ys σ H,Pv i ys σ H→ys.length≤i)
  (hs:∀i ys σ H,i<n→Pv i ys σ H→g (.int (lo+i)) σ H fun σ2 H2=>tt σ2 H2 fun b H3=>if b=true then te σ2 H3 fun v H4=>Pv (i+1) (ys++[v]) σ2 H4 else Pv (i+1) ys σ2 H3)
  (hd:∀ys σ H,Pv n ys σ H→Q ys H):HR g tt te (Nj lo n) Q σ H:=by
 refine⟨fun i m ys σ H=>m=n-i∧i≤n∧Pv i ys σ H,⟨n,by simp,aaI _,h0⟩,?_⟩
 rintro i m ys σ H ⟨rfl,hi,p⟩
 have hl:=hlen i ys σ H p
 by_cases kU:i<n
 ·refine .inr ⟨kU,by omega,Pv (i+1),fun QU σ' H' p'=>⟨n-(i+1),by omega,rfl,kU,p'⟩,fun x H' y=>?_⟩
  obtain⟨rfl,rfl⟩:=y
  exact hs i ys σ _ kU p
 ·have e:i=n:=by omega
  subst e
  exact .inl ⟨ZA _,by omega,hd ys σ H p⟩
theorem kx{K:Qqy}{a:Addr}{xs:List V}{g:TG}{tt:TT}{te:TE}{Q:List V→Hp→Prop}{σ:St}{H:Hp}(hn:xs.length≤sizeLine)(Pv:Nat→List V→St→Hp→Prop)(h0:Pv 0 [] σ H)(hl:∀i ys σ H,i≤xs.length→Pv i ys σ H→hE K H a xs∧ys.length≤i)
  (hs:∀i x ys σ H,xs[i]?=some x→Pv i ys σ H→g x σ H fun σ2 H2=>tt σ2 H2 fun b H3=>if b=true then te σ2 H3 fun v H4=>Pv (i+1) (ys++[v]) σ2 H4 else Pv (i+1) ys σ2 H3)
  (hd:∀ys σ H,Pv xs.length ys σ H→Q ys H):HR g tt te (QI K a) Q σ H:=by
 refine⟨fun i m ys σ H=>m=xs.length-i∧i≤xs.length∧Pv i ys σ H,⟨xs.length,by simp,aaI _,h0⟩,?_⟩
 rintro i m ys σ H ⟨rfl,hi,p⟩
 obtain⟨q,hy⟩:=hl i ys σ H hi p
 by_cases kU:i<xs.length
 ·refine .inr ⟨⟨xs,xs[i],q,by simp[kU]⟩,by omega,Pv (i+1),fun QU σ' H' p'=>⟨xs.length-(i+1),by omega,rfl,kU,p'⟩,fun x H' y=>?_⟩
  obtain⟨rfl,y⟩:=y
  exact hs i x ys σ _ (y xs q) p
 ·have e:i=xs.length:=by omega
  subst e
  exact .inl ⟨⟨xs,q,ZA _⟩,by omega,hd ys σ H p⟩
end L2
namespace PySem
section
variable{prog:Program}{w:World}{A:Around}{E:Qqq}{s:Shared}
end
end PySem
namespace L2
open PySem PySem.Spec PyProof.Rows
noncomputable def RO(lo st:Int)(n:Nat):It:=⟨fun i _=>i<n,fun i H x H'=>H'=H∧x=.int (lo+i*st),fun i _=>n≤i⟩
theorem Ei{P:Program}{w:World}{K:PySem.W.Frag}{tg:Expr}(it:Addr)(lo st:Int)(n:Nat):Turn P w K tg (RO lo st n) [it] it (fun i h=>IsRangeIter h it (lo+(i:Nat)*st) ((n:Int)-(i:Nat)) st) where
 mem:=by simp
 obj:=fun i h st b hb=>by
  have e:b=it:=by simpa using hb
  subst e
  exact⟨_,st,fun v z=>by
   have z':Data.fields _=Data.cell v:=z
   cases z'⟩
 keep:=fun i h h' st k=>k it (by simp) _ st
 item:=by
  intro X hP hw hK hc i c_ s σ H E I hf stt hg
  subst hP hw hK
  obtain⟨f0,f1,f2,f3,f4,f5⟩:=hf it (by simp)
  have W:=Walks.range (prog:=X.prog) (w:=X.w) (I.ok.hd hc) it lo st n
  refine W.item i s _ _ hg stt fun v h' tk hv Bp kk=>?_
  obtain⟨t,rfl⟩:=hv
  have I1:Inv X c_ σ H {s with heap:=h',toks:=tk}:=I.turned (fun b o hb e=>kk b o (by simpa using hb) e) f0 f1 f3 f4 f5
  exact⟨_,rfl,zj (s:={s with heap:=h',toks:=tk}) (n:="range_iterator") Bp rfl rfl (by decide) ⟨.int (lo+i*st),H,I1,⟨t,rfl⟩,⟨rfl,rfl⟩,Bp,fun b hb=>(hf b hb).1⟩⟩
 done:=by
  intro X hP hw hK hc i c_ s σ H E I hf st hg
  subst hP hw hK
  obtain⟨f0,f1,f2,f3,f4,f5⟩:=hf it (by simp)
  exact wpAny_pyNext_range_end (I.ok.hd hc) st (by have:n≤i:=hg;omega) fun h' eb=>⟨rfl,I.turned (t':=s.toks) (fun b o hb e=>eb b o hb e) f0 f1 f3 f4 f5⟩
 self:=fun _ _ _ _ _ st h=>wpAny_pyIter_rangeiter st h
theorem rangeSize_down(a b:Int):Builtin.Range.rangeSize a b (-1)=((a-b).toNat:Int):=by
 unfold Builtin.Range.rangeSize
 simp only [show ¬((-1:Int)>0) by decide,ab5]
 have e:(- -1:Int)=1:=by decide
 rw[e,Int.ediv_one]
 split<;>omega
theorem small_down{a b:Int}(ha:-(2 ^ 61)≤a)(ha':a<2 ^ 61)(hb:-(2 ^ 61)≤b)(IX:b<2 ^ 61):Builtin.Range.small a b (-1)=true:=by
 unfold Builtin.Range.small
 rw[rangeSize_down]
 simp only [Builtin.Range.rangeFitsLong,abp,ack,abV,ab2,show ¬((-1:Int)>0) by decide,ab5]
 omega
section
variable{X:Cx}{tg:Expr}
def RP(ta:TA):TI:=fun σ H R=>ta σ H fun vs H1=>∃i j:Int,vs=[.int i,.int j,.int (-1)]∧(-(2 ^ 61)≤i∧i<2 ^ 61∧-(2 ^ 61)≤j∧j<2 ^ 61)∧R (RO i (-1) (i-j).toNat) H1
theorem wI{a b c:Expr}{ta:TA}{p pos:Pos}(hg:Gl X "range")(hm:X.mg "range"=none)(ha:PA X [a,b,c] ta)(hs:starEach [a,b,c] X.env=[(false,eval a X.env),(false,eval b X.env),(false,eval c X.env)]:=by rfl)
  (IU:starEach [b,c] X.env=[(false,eval b X.env),(false,eval c X.env)]:=by rfl):PI X tg (.Call (.Name "range" p) [a,b,c] [] pos) (RP ta):=by
 intro c_ s σ H R I h
 refine Call_ (pe I hg hm boot_range (aaW (i8 (ha pos c_ s σ H _ I h) fun us s1 iM=>?_) (by rw[hs,IU]) (by rw[IU];rfl)))
 obtain⟨vs,H1,I1,r1,q1⟩:=iM
 obtain⟨i,j,e,⟨q1,q2,q3,q4⟩,q⟩:=q1
 subst e
 cases r1 with
 | cons r rr=>
  cases rr with
  | cons r' rr=>
   cases rr with
   | cons r'' rr=>
    cases rr
    obtain⟨t,rfl⟩:=r
    obtain⟨t',rfl⟩:=r'
    obtain⟨ZX,rfl⟩:=r''
    refine call_range_3 (by decide) ?_ (Or.inl (PyProof.noPylong_small (by decide)))
    refine wpAny_pyIter_range (IsRange.new ..) (small_down q1 q2 q3 q4) ?_
    generalize ho:({cls:=.type "range",data:=.fields #[.int i t,.int j t',.int (-1) ZX]}:Obj)=o
    have I2:Inv X c_ σ H1 {s1 with heap:=s1.heap.push o,toks:=s1.toks}:=I1.kept fun b o e=>aag _ e
    refine⟨(s1.heap.push o).objs.size,[(s1.heap.push o).objs.size],_,_,H1,rfl,I2.kept (t':=s1.toks) fun b o e=>aag _ e,Ei _ i (-1) (i-j).toNat,?_,fun b hb=>?_,q⟩
    ·show IsRangeIter _ _ (i+((0:Nat):Int)*(-1)) ((((i-j).toNat:Nat):Int)-((0:Nat):Int)) (-1)
     have e1:i+((0:Nat):Int)*(-1)=i:=by simp
     have e2:(((i-j).toNat:Nat):Int)-((0:Nat):Int)=Builtin.Range.rangeSize i j (-1):=by rw[rangeSize_down];simp
     rw[e1,e2]
     exact aaC _ rfl
    ·have e:b=(s1.heap.push o).objs.size:=by simpa using hb
     subst e
     exact I2.zi (ZA _) (I2.iP.fresh (ZA _))
end
theorem uo{lo st:Int}{n:Nat}{g:TG}{tb:TS}{D:Ends}{σ:St}{H:Hp}(Pv:Nat→St→Hp→Prop)(h0:Pv 0 σ H)
  (hs:∀i σ H,i<n→Pv i σ H→g (.int (lo+i*st)) σ H fun σ2 H2=>tb {D with nx:=Pv (i+1),ct:=Pv (i+1),bk:=D.nx} σ2 H2) (hd:∀σ H,Pv n σ H→D.nx σ H) :
  ∃W:Nat→Nat→St→Hp→Prop,(∃m,W 0 m σ H)∧∀i m σ H,W i m σ H→
   ((RO lo st n).stop i H∧D.nx σ H)∨((RO lo st n).go i H∧∃N:St→Hp→Prop,(∀σ' H',N σ' H'→∃m',m'<m∧W (i+1) m' σ' H')∧∀x H',(RO lo st n).Jg i H x H'→g x σ H' fun σ2 H2=>tb {D with nx:=N,ct:=N,bk:=D.nx} σ2 H2):=by
 refine⟨fun i m σ H=>m=n-i∧i≤n∧Pv i σ H,⟨n,by simp,aaI _,h0⟩,?_⟩
 rintro i m σ H ⟨rfl,hi,p⟩
 by_cases kU:i<n
 ·refine .inr ⟨kU,Pv (i+1),fun σ' H' p'=>⟨n-(i+1),by omega,rfl,kU,p'⟩,fun x H' y=>?_⟩
  obtain⟨e,y⟩:=y
  subst e y
  exact hs i σ _ kU p
 ·have e:i=n:=by omega
  subst e
  exact .inl ⟨ZA _,hd σ H p⟩
section
variable{X:Cx}
theorem j1:xC X (.builtin "isinstance") (fun xs H Q=>∃x T t b,xs=[x,.ty T]∧wC X.K H x t∧W.kitOne X.K t (.type T)=some b∧Q (.bl b) H):=by
 intro c_ s σ H xs us Q I r h
 obtain⟨x,T,t,b,rfl,ty,e,q⟩:=h
 obtain⟨u,u',rfl,ru,ru'⟩:=vals2 r
 cases (show u'=Value.type T from ru')
 exact HH I ru ty e fun tk=>⟨.bl b,H,I.tok tk,rfl,q⟩
theorem zz:∀{xs:List Str} {us:List Value},Vals (xs.map V.str) us→StrsAre us xs
 | [],_,h=>by cases h;exact .nil
 | x::r,_,h=>by
  cases h with
  | cons a t=>
   obtain⟨tk,rfl⟩:=a
   exact .cons x tk (zz t)
def rJoin(K:Qqy):V→List V→Hp→VK→Prop:=fun x vs H Q=>∃z l xs,x=.str z∧vs=[.ref l]∧hE K H l (xs.map V.str)∧(xs.map (·.length)).sum+xs.length*z.length≤16777216∧Q (.str (Txt.join z xs)) H
theorem L5:VT X "str.join" (rJoin X.K):=by
 intro c_ s σ H x xs v us Q I rx r h
 obtain⟨z,l,ys,rfl,rfl,hl,hz,q⟩:=h
 obtain⟨u,rfl,ru⟩:=vals1 r
 cases ru
 obtain⟨t,rfl⟩:=rx
 obtain⟨ib,rv,p,_⟩:=I.list hl
 exact join_list p.isList (by simpa using zz rv) hz fun t' k=>⟨.str _,H,I.tok k,⟨t',rfl⟩,q⟩
end
inductive oA(K:Qqy)(H:Hp):Nat→V→V→Bool→Prop
 | flat {n x y} (fx:rC x=true) (fy:rC y=true):oA K H n x y (QJ x y)
 | lists {n a c xs ys} {e:Nat→Bool} (h1:hE K H a xs) (h2:hE K H c ys) (hl:xs.length=ys.length) (he:∀(j:Nat) u v,xs[j]?=some u→ys[j]?=some v→oA K H n u v (e j)):oA K H (n+1) (.ref a) (.ref c) ((List.range xs.length).all e)
 | Jy {n a c xs ys} (h1:hE K H a xs) (h2:hE K H c ys) (hl:xs.length≠ys.length):oA K H n (.ref a) (.ref c) false
 | rj {n a c xs ys} {e:Nat→Bool} (h1:rn K H a xs) (h2:rn K H c ys) (he:∀(j:Nat) u v,xs[j]?=some u→ys[j]?=some v→oA K H n u v (e j)):oA K H (n+1) (.ref a) (.ref c) ((List.range (min xs.length ys.length)).all e&&xs.length ==ys.length)
 | wJ {n a xs y} (h1:hE K H a xs) (fy:rC y=true):oA K H n (.ref a) y false
 | wK {n a xs y} (h1:hE K H a xs) (fy:rC y=true):oA K H n y (.ref a) false
 | zA {n a xs y} (h1:rn K H a xs) (fy:rC y=true):oA K H n (.ref a) y false
 | zB {n a xs y} (h1:rn K H a xs) (fy:rC y=true):oA K H n y (.ref a) false
 | zC {n a c xs ys} (h1:hE K H a xs) (h2:rn K H c ys):oA K H n (.ref a) (.ref c) false
 | zD {n a c xs ys} (h1:rn K H a xs) (h2:hE K H c ys):oA K H n (.ref a) (.ref c) false
theorem Jz:∀{x:V},rC x=true→QJ x x=true:=by
 intro x h
 cases x<;>simp[rC,QJ] at *
section
variable{X:Cx}{c_:Qqz}{σ:St}{H:Hp}{s:Shared}
theorem Inv.Nt{a c:Addr}{xs ys:List V}(I:Inv X c_ σ H s)(h1:hE X.K H a xs)(h2:rn X.K H c ys):a≠c:=by
 obtain⟨ib,_,p,_⟩:=I.list h1
 obtain⟨l6,_,p2,_⟩:=I.tuple h2
 exact SeqAt.ne_of_list_tuple p.isList (show s.heap.IsTuple c l6.toArray from p2)
theorem oA.self{n:Nat}{x y:V}{b:Bool}(I:Inv X c_ σ H s)(h:oA X.K H n x y b):x=y→b=true:=by
 induction h with
 | flat fx fy=>intro e;subst e;exact Jz fx
 | lists h1 h2 hl he ih=>
  intro e
  cases e
  have:=I.pK h1 h2
  subst this
  refine abK.mpr fun j hj=>?_
  have hj:=List.mem_range.mp hj
  exact ih j _ _ (Wd hj) (Wd hj) rfl
 | Jy h1 h2 hl=>intro e;cases e;exact absurd (aa4 List.length (I.pK h1 h2)) hl
 | rj h1 h2 he ih=>
  intro e
  cases e
  have:=I.HA h1 h2
  subst this
  rw[abp]
  refine⟨abK.mpr fun j hj=>?_,by simp⟩
  have hj:=List.mem_range.mp hj
  rw[Nat.min_self] at hj
  exact ih j _ _ (Wd hj) (Wd hj) rfl
 | wJ h1 fy=>intro e;subst e;exact absurd (show false=true from fy) aah
 | wK h1 fy=>intro e;subst e;exact absurd (show false=true from fy) aah
 | zA h1 fy=>intro e;subst e;exact absurd (show false=true from fy) aah
 | zB h1 fy=>intro e;subst e;exact absurd (show false=true from fy) aah
 | zC h1 h2=>intro e;cases e;exact absurd rfl (I.Nt h1 h2)
 | zD h1 h2=>intro e;cases e;exact absurd rfl (I.Nt h2 h1)
theorem qj{y:V}{v:Value}(r:RelV y v)(f:rC y=true):v=.none∨(∃b,v=.bool b)∨(∃i t,v=.int i t)∨∃x t,v=.str x t:=by
 cases y with
 | jo=>exact .inl r
 | bl b=>exact .inr (.inl ⟨b,r⟩)
 | int i=>obtain⟨t,e⟩:=r;exact .inr (.inr (.inl ⟨i,t,e⟩))
 | str x=>obtain⟨t,e⟩:=r;exact .inr (.inr (.inr ⟨x,t,e⟩))
 | _=>exact absurd (show false=true from f) aah
theorem oN{xs:List V}{ib:List Value}(rv:Vals xs ib){j:Nat}(h:j<ib.toArray.size):∃x,xs[j]?=some x∧RelV x ib.toArray[j]:=by
 have hl:=rv.length
 have hj:j<ib.length:=by simpa using h
 have hx:j<xs.length:=by omega
 obtain⟨u,hu,ru⟩:=rv.get (Wd hx)
 refine⟨xs[j],Wd hx,?_⟩
 rw[Wd hj] at hu
 cases hu
 simpa using ru
theorem oA.at{n:Nat}{x y:V}{b:Bool}(I:Inv X c_ σ H s)(h:oA X.K H n x y b):∀(A:Around)(u v:Value),RelV x u→RelV y v→A.units+n<cLine→SeqAt.EqAt A s u v b:=by
 induction h with
 | flat fx fy=>intro A u v ru rv _;exact Oy ru rv fx fy
 | @lists n a c xs ys e h1 h2 hl he ih=>
  intro A u v ru rv hu
  cases ru;cases rv
  by_cases S8:a=c
  ·subst S8
   have hb:=oA.self I (oA.lists h1 h2 hl he) rfl
   rw[hb]
   exact SeqAt.EqAt.same _
  ·obtain⟨ib,r1,p1,_⟩:=I.list h1
   obtain⟨l6,r2,p2,_⟩:=I.list h2
   have l1:=r1.length
   have l2:=r2.length
   refine SeqAt.EqAt.of_refs S8 ?_
   have q:=SeqAt.RcAt.lists (A:=A) (e:=e) p1.isList p2.isList (by simp;omega) (by omega) fun j g1 g2=>by
    obtain⟨x,ex,rx⟩:=oN r1 g1
    obtain⟨y,ey,ry⟩:=oN r2 g2
    exact ih j x y ex ey A.in1 _ _ rx ry (by show A.units+1+n<cLine;omega)
   rw[aai,←l1] at q
   exact q
 | @Jy n a c xs ys h1 h2 hl=>
  intro A u v ru rv hu
  cases ru;cases rv
  obtain⟨ib,r1,p1,_⟩:=I.list h1
  obtain⟨l6,r2,p2,_⟩:=I.list h2
  have l1:=r1.length
  have l2:=r2.length
  refine SeqAt.EqAt.of_refs (fun e=>?_) (SeqAt.RcAt.lists_lengths p1.isList p2.isList (by simp;omega) (by omega))
  subst e
  exact hl (aa4 List.length (I.pK h1 h2))
 | @rj n a c xs ys e h1 h2 he ih=>
  intro A u v ru rv hu
  cases ru;cases rv
  by_cases S8:a=c
  ·subst S8
   have hb:=oA.self I (oA.rj h1 h2 he) rfl
   rw[hb]
   exact SeqAt.EqAt.same _
  ·obtain⟨ib,r1,p1,_⟩:=I.tuple h1
   obtain⟨l6,r2,p2,_⟩:=I.tuple h2
   have l1:=r1.length
   have l2:=r2.length
   refine SeqAt.EqAt.of_refs S8 ?_
   have q:=SeqAt.RcAt.tuples (A:=A) (e:=e) (show s.heap.IsTuple a ib.toArray from p1) (show s.heap.IsTuple c l6.toArray from p2) (by omega) fun j g1 g2=>by
    obtain⟨x,ex,rx⟩:=oN r1 g1
    obtain⟨y,ey,ry⟩:=oN r2 g2
    exact ih j x y ex ey A.in1 _ _ rx ry (by show A.units+1+n<cLine;omega)
   rw[aai,aai,←l1,←l2] at q
   exact q
 | @wJ n a xs y h1 fy=>
  intro A u v ru rv hu
  cases ru
  obtain⟨ib,r1,p1,_⟩:=I.list h1
  rcases qj rv fy with rfl|⟨b,rfl⟩|⟨i,t,rfl⟩|⟨x,t,rfl⟩
  ·exact .list_none p1.isList (by omega)
  ·exact .list_bool b p1.isList (by omega)
  ·exact .list_int i t p1.isList (by omega)
  ·exact .list_str x t p1.isList (by omega)
 | @wK n a xs y h1 fy=>
  intro A u v ru rv hu
  cases rv
  obtain⟨ib,r1,p1,_⟩:=I.list h1
  rcases qj ru fy with rfl|⟨b,rfl⟩|⟨i,t,rfl⟩|⟨x,t,rfl⟩
  ·exact .none_list p1.isList (by omega)
  ·exact .bool_list b p1.isList (by omega)
  ·exact .int_list i t p1.isList (by omega)
  ·exact .str_list x t p1.isList (by omega)
 | @zA n a xs y h1 fy=>
  intro A u v ru rv hu
  cases ru
  obtain⟨ib,r1,p1,_⟩:=I.tuple h1
  have p1:s.heap.IsTuple a ib.toArray:=p1
  rcases qj rv fy with rfl|⟨b,rfl⟩|⟨i,t,rfl⟩|⟨x,t,rfl⟩
  ·exact .tuple_none p1 (by omega)
  ·exact .tuple_bool b p1 (by omega)
  ·exact .tuple_int i t p1 (by omega)
  ·exact .tuple_str x t p1 (by omega)
 | @zB n a xs y h1 fy=>
  intro A u v ru rv hu
  cases rv
  obtain⟨ib,r1,p1,_⟩:=I.tuple h1
  have p1:s.heap.IsTuple a ib.toArray:=p1
  rcases qj ru fy with rfl|⟨b,rfl⟩|⟨i,t,rfl⟩|⟨x,t,rfl⟩
  ·exact .none_tuple p1 (by omega)
  ·exact .bool_tuple b p1 (by omega)
  ·exact .int_tuple i t p1 (by omega)
  ·exact .str_tuple x t p1 (by omega)
 | @zC n a c xs ys h1 h2=>
  intro A u v ru rv hu
  cases ru;cases rv
  obtain⟨ib,r1,p1,_⟩:=I.list h1
  obtain⟨l6,r2,p2,_⟩:=I.tuple h2
  exact .list_tuple p1.isList (show s.heap.IsTuple c l6.toArray from p2) (by omega)
 | @zD n a c xs ys h1 h2=>
  intro A u v ru rv hu
  cases ru;cases rv
  obtain⟨ib,r1,p1,_⟩:=I.tuple h1
  obtain⟨l6,r2,p2,_⟩:=I.list h2
  exact .tuple_list (show s.heap.IsTuple a ib.toArray from p1) p2.isList (by omega)
def OL(x y:V):Prop:=∃a c,x=.ref a∧y=.ref c
theorem oA.rc{n:Nat}{x y:V}{b:Bool}{A:Around}{u v:Value}(I:Inv X c_ σ H s)(h:oA X.K H n x y b)(sq:OL x y)(ru:RelV x u)(rv:RelV y v)(hu:A.units+n+1<cLine):SeqAt.RcAt A s u v b∧SeqAt.RcNeAt A s u v (!b):=by
 obtain⟨a0,c0,rfl,rfl⟩:=sq
 cases ru;cases rv
 cases h with
 | flat fx fy=>exact absurd (show false=true from fx) aah
 | @lists n a c xs ys e h1 h2 hl he=>
  obtain⟨ib,r1,p1,_⟩:=I.list h1
  obtain⟨l6,r2,p2,_⟩:=I.list h2
  have l1:=r1.length
  have l2:=r2.length
  have el:∀j (g1:j<ib.toArray.size) (g2:j<l6.toArray.size),SeqAt.EqAt A.in1 s ib.toArray[j] l6.toArray[j] (e j):=fun j g1 g2=>by
   obtain⟨x,ex,rx⟩:=oN r1 g1
   obtain⟨y,ey,ry⟩:=oN r2 g2
   exact(he j x y ex ey).at I A.in1 _ _ rx ry (by show A.units+1+n<cLine;omega)
  have q:=SeqAt.RcAt.lists (A:=A) (e:=e) p1.isList p2.isList (by simp;omega) (by omega) el
  have q':=SeqAt.RcNeAt.lists (A:=A) (e:=e) p1.isList p2.isList (by simp;omega) (by omega) el
  rw[aai,←l1] at q q'
  exact⟨q,q'⟩
 | @Jy n a c xs ys h1 h2 hl=>
  obtain⟨ib,r1,p1,_⟩:=I.list h1
  obtain⟨l6,r2,p2,_⟩:=I.list h2
  have l1:=r1.length
  have l2:=r2.length
  exact⟨SeqAt.RcAt.lists_lengths p1.isList p2.isList (by simp;omega) (by omega),SeqAt.RcNeAt.lists_lengths p1.isList p2.isList (by simp;omega) (by omega)⟩
 | @rj n a c xs ys e h1 h2 he=>
  obtain⟨ib,r1,p1,_⟩:=I.tuple h1
  obtain⟨l6,r2,p2,_⟩:=I.tuple h2
  have l1:=r1.length
  have l2:=r2.length
  have el:∀j (g1:j<ib.toArray.size) (g2:j<l6.toArray.size),SeqAt.EqAt A.in1 s ib.toArray[j] l6.toArray[j] (e j):=fun j g1 g2=>by
   obtain⟨x,ex,rx⟩:=oN r1 g1
   obtain⟨y,ey,ry⟩:=oN r2 g2
   exact(he j x y ex ey).at I A.in1 _ _ rx ry (by show A.units+1+n<cLine;omega)
  have q:=SeqAt.RcAt.tuples (A:=A) (e:=e) (show s.heap.IsTuple a0 ib.toArray from p1) (show s.heap.IsTuple c0 l6.toArray from p2) (by omega) el
  have q':=SeqAt.RcNeAt.tuples (A:=A) (e:=e) (show s.heap.IsTuple a0 ib.toArray from p1) (show s.heap.IsTuple c0 l6.toArray from p2) (by omega) el
  rw[aai,aai,←l1,←l2] at q q'
  exact⟨q,q'⟩
 | wJ h1 fy=>exact absurd (show false=true from fy) aah
 | wK h1 fy=>exact absurd (show false=true from fy) aah
 | zA h1 fy=>exact absurd (show false=true from fy) aah
 | zB h1 fy=>exact absurd (show false=true from fy) aah
 | @zC n a c xs ys h1 h2=>
  obtain⟨ib,r1,p1,_⟩:=I.list h1
  obtain⟨l6,r2,p2,_⟩:=I.tuple h2
  exact⟨.list_tuple p1.isList (show s.heap.IsTuple c0 l6.toArray from p2) (by omega),.list_tuple p1.isList (show s.heap.IsTuple c0 l6.toArray from p2) (by omega)⟩
 | @zD n a c xs ys h1 h2=>
  obtain⟨ib,r1,p1,_⟩:=I.tuple h1
  obtain⟨l6,r2,p2,_⟩:=I.list h2
  exact⟨.tuple_list (show s.heap.IsTuple a0 ib.toArray from p1) p2.isList (by omega),.tuple_list (show s.heap.IsTuple a0 ib.toArray from p1) p2.isList (by omega)⟩
end
section
variable{X:Cx}
def V6(K:Qqy)(n:Nat):R2:=fun x y H Q=>∃b,OL x y∧oA K H n x y b∧Q (.bl b) H
def V7(K:Qqy)(n:Nat):R2:=fun x y H Q=>∃b,OL x y∧oA K H n x y b∧Q (.bl (!b)) H
theorem FO(n:Nat)(hu:X.A.units+n+1<cLine):yG X (compareOp .Eq) (V6 X.K n):=by
 intro c_ s σ H x y u v Q I rx ry h
 obtain⟨b,sq,e,q⟩:=h
 exact(e.rc I sq rx ry hu).1 X.prog X.w X.xe _ ⟨.bl b,H,I,rfl,q⟩
theorem CA(n:Nat)(hu:X.A.units+n+1<cLine):yG X (compareOp .NotEq) (V7 X.K n):=by
 intro c_ s σ H x y u v Q I rx ry h
 obtain⟨b,sq,e,q⟩:=h
 exact(e.rc I sq rx ry hu).2 X.prog X.w X.xe _ ⟨.bl (!b),H,I,rfl,q⟩
end
theorem oA.L6{K:Qqy}{H:Hp}{n:Nat}{β:Type}[DecidableEq β]{F:β→V→Prop}(hF:∀p q u v,F p u→F q v→oA K H n u v (decide (p=q))){a c:Addr}{xs ys:List V}{ps qs:List β}
  (h1:hE K H a xs) (h2:hE K H c ys) (r1:Paired F ps xs) (r2:Paired F qs ys):oA K H (n+1) (.ref a) (.ref c) (decide (ps=qs)):=by
 have l1:=r1.length
 have l2:=r2.length
 have S9:∀{ps:List β} {xs:List V},Paired F ps xs→∀(j:Nat) u,xs[j]?=some u→∃p,ps[j]?=some p∧F p u:=by
  intro ps xs r
  induction r with
  | nil=>intro j u h;simp at h
  | cons f t ih=>
   intro j u h
   cases j with
   | zero=>simp at h;subst h;exact⟨_,rfl,f⟩
   | succ j=>simpa using ih j u (by simpa using h)
 by_cases hl:xs.length=ys.length
 ·have e:oA K H (n+1) (.ref a) (.ref c) ((List.range xs.length).all fun j=>decide (ps[j]?=qs[j]?)):=.lists h1 h2 hl fun j u v hu hv=>by
   obtain⟨p,ep,fp⟩:=S9 r1 j u hu
   obtain⟨q,eq,fq⟩:=S9 r2 j v hv
   have:=hF p q u v fp fq
   rw[ep,eq]
   have e:decide (some p=some q)=decide (p=q):=by simp
   rw[e]
   exact this
  have e2:((List.range xs.length).all fun j=>decide (ps[j]?=qs[j]?))=decide (ps=qs):=by
   by_cases h:ps=qs
   ·subst h;simp
   ·rw[aaf h,abE]
    intro z
    refine h (List.ext_getElem? fun j=>?_)
    by_cases hj:j<xs.length
    ·simpa using abK.mp z j (List.mem_range.mpr hj)
    ·rw[List.getElem?_eq_none_iff.mpr (by omega),List.getElem?_eq_none_iff.mpr (by omega)]
  rw[←e2]
  exact e
 ·rw[aaf fun z=>hl (by rw[←l1,←l2,z])]
  exact .Jy h1 h2 hl
theorem oA.JA{K:Qqy}{H:Hp}{n:Nat}(p q:Str):oA K H n (.str p) (.str q) (decide (p=q)):=by
 have:QJ (.str p) (.str q)=decide (p=q):=(Bool.beq_eq_decide_eq p q)
 rw[←this]
 exact .flat rfl rfl
theorem oA.OM{K:Qqy}{H:Hp}{n:Nat}(p q:Int):oA K H n (.int p) (.int q) (decide (p=q)):=by
 have:QJ (.int p) (.int q)=decide (p=q):=(Bool.beq_eq_decide_eq p q)
 rw[←this]
 exact .flat rfl rfl
structure RQ(P:Program)(w:World)(outer:List Env)(H H':Hp)(s s':Shared)(e C:Addr):Prop where
 os:s'.os=s.os
 bare:AllBare s'.gens
 un:Un (uf outer) [] H H' s.heap s'.heap
 iP:rh P w H' s'.heap
 fl:∃B t,Heap.FlyingW B outer e (.ref C) (.ref t) s'.heap∧∀b o,s'.heap.get? b=some o→b∉uf outer→((∃u,H' b=some u)∨∃o',s.heap.get? b=some o')→B.get? b=some o
 new:s.heap.get? e=none
 free:H' e=none
def tL(P:Program)(w:World):GQ:=fun outer H s E ev s'=>∃e C H',ev=.ref e∧RQ P w outer H H' s s' e C∧E (.ref C) none H'
theorem i9.ex{P:Program}{w:World}{H:Hp}{h:Heap}{a:Addr}{o:HO}(x:i9 P w H h a o):∃ob,h.get? a=some ob:=by
 cases o with
 | lst xs=>obtain⟨_,_,_,_,e⟩:=x;exact⟨_,e⟩
 | tup xs=>obtain⟨_,_,_,o,e,_⟩:=x;exact⟨_,e⟩
 | dK kvs=>obtain⟨_,_,_,_,o,_,_,e,_⟩:=x;exact⟨_,e⟩
 | dT kvs=>obtain⟨_,_,_,_,o,_,_,e,_⟩:=x;exact⟨_,e⟩
 | set S n=>obtain⟨o,_,_,_,e,_⟩:=x;exact⟨_,e⟩
 | ins C dx fs=>obtain⟨_,_,_,e,_⟩:=x;exact⟨_,e⟩
 | own y=>obtain⟨_,e⟩:=x;exact⟨_,e⟩
 | xd fs=>obtain⟨_,⟨_,_,_,e,_⟩,_⟩:=x;exact⟨_,e⟩
 | UE lo hi=>obtain⟨_,_,_,e⟩:=x;exact⟨_,e⟩
 | nA ob u=>obtain⟨e,_⟩:=x;exact⟨_,e⟩
 | Lz ps=>exact⟨_,(show h.get? a=some _ from x)⟩
 | met f y=>exact⟨_,(show h.get? a=some _ from x)⟩
 | ext φ=>obtain⟨_,⟨_,e⟩,_⟩:=x;exact⟨_,e⟩
section
variable{X:Cx}{c_:Qqz}{σ:St}{H H':Hp}{s s':Shared}{e C:Addr}{M:Model}{E:Qqq}
structure Bd(X:Cx):Prop where
 stack:X.stack=X.env::X.outer
 frame:X.env.frame=some X.env.locals
 ex:X.ex=[]
theorem Inv.LN(I:Inv X c_ σ H s){b:Addr}{o:Obj}(h:X.s₀.heap.get? b=some o)(nf:b∉X.fs):b∉uf X.stack:=fun hb=>by
 rcases W3.mp (I.wz b hb) with z|z
 ·rw[z] at h
  exact absurd (aaE (aax h) I.ok.above) (abm _)
 ·exact nf z
theorem JB(I:Inv X c_ σ H s)(bd:Bd X)(un:Un (uf X.stack) [] H H' s.heap s'.heap)(hos:s'.os=s.os)(S_:AllBare s'.gens)(iP:rh X.prog X.w H' s'.heap){B P7:Heap}{t:Addr}
  (hB:∀b o,s'.heap.get? b=some o→b∉uf X.stack→((∃u,H' b=some u)∨∃o',s.heap.get? b=some o')→B.get? b=some o)
  (hF:s'.heap.FunFrames B X.stack) (nP:Heap.FlyingW B X.outer e (.ref C) (.ref t) P7) (up:s'.heap.UpToSlots P7) (new:s.heap.get? e=none) (WO:H' e=none) :
  RQ X.prog X.w X.outer X.H₀ H' X.s₀ {s' with heap:=P7} e C:=by
 have hex:=bd.ex
 have Ta:∀b∈uf X.stack,H' b=none:=fun b hb=>by
  obtain⟨_,o,ho,_⟩:=I.stack.mem hb
  exact un.free b o ho (I.Cn b hb) (by simp)
 have NN:∀b u,H' b=some u→b∉uf X.stack:=fun b u hu hb=>by rw[Ta b hb] at hu;cases hu
 have Ci:∀b o u,s'.heap.get? b=some o→H' b=some u→P7.get? b=some o:=fun b o u ho hu=>
  nP.1 b o (hB b o ho (NN b u hu) (.inl ⟨u,hu⟩))
 have tF:∀b,b∉X.ex:=fun b z=>by rw[hex] at z;cases z
 have outS:∀b,b∈uf X.outer→b∈uf X.stack:=fun b hb=>by
  rw[bd.stack];unfold uf;rw[abr,bd.frame];exact aad _ hb
 refine⟨hos.trans I.os,S_,⟨fun b o q n hb hx=>?_,fun b o q n hb hx=>?_,fun b o q n hx=>?_,fun b o q hx=>?_,fun b xs q=>un.rj b xs (I.base.rj b xs q),fun b o u q=>un.uT b o u (I.base.uT b o u q),fun b ps q=>?_⟩,fun a u ha=>?_,⟨B,t,nP,fun b o hb nb hc=>?_⟩,?_,WO⟩
 ·have q1:=I.base.keep b o q n hb (tF b)
  have nf:=I.LN q hb
  exact nP.1 b o (hB b o (un.keep b o q1 (I.base.free b o q n (tF b)) nf (by simp)) nf (.inr ⟨o,q1⟩))
 ·obtain⟨sl,q1⟩:=I.base.slot b o q n hb (tF b)
  obtain⟨JC,q2⟩:=un.any q1 (I.base.free b o q n (tF b)) (by simp)
  obtain⟨_,o',qJ,hd⟩:=I.ok.uU.mem hb
  rw[q] at qJ;cases qJ
  obtain⟨Fp,q3⟩:=up b _ q2 hd
  exact⟨Fp,q3⟩
 ·obtain⟨o',q1⟩:=I.base.there b o q (tF b)
  exact un.free b o' q1 (I.base.free b o q n (tF b)) (by simp)
 ·obtain⟨o1,q1⟩:=I.base.there b o q (tF b)
  obtain⟨o2,q2⟩:=un.there b o1 q1 (by simp)
  by_cases hb:b∈uf X.stack
  ·obtain⟨_,o',qJ,hd⟩:=hF.mem hb
   rw[q2] at qJ;cases qJ
   obtain⟨Fp,q3⟩:=up b _ q2 hd
   exact⟨_,q3⟩
  ·exact⟨o2,nP.1 b o2 (hB b o2 q2 hb (.inr ⟨o1,q1⟩))⟩
 ·obtain⟨m1,e1⟩:=I.base.yF b ps q
  obtain⟨m2,e2⟩:=un.yF b _ e1
  exact⟨m1++m2,by rw[e2,Array.append_assoc]⟩
 ·refine(iP a u ha).zh (fun b v hb q=>?_) (fun _ z=>z) fun _ _ z=>z
  rcases hb with z|z
  ·rw[z] at q ⊢;exact Ci a v u q ha
  ·exact Ci b v _ q z
 ·have all:∀o1,s'.heap.get? b=some o1→b∉uf X.stack→((∃u,H' b=some u)∨∃o',s.heap.get? b=some o')→B.get? b=some o:=fun o1 q1 nf c=>by
   have z:=hB b o1 q1 nf c
   have z2:=nP.1 b o1 z
   have hb:P7.get? b=some o:=hb
   rw[hb] at z2;cases z2
   exact z
  rcases hc with⟨u,hu⟩|⟨o',qJ⟩
  ·obtain⟨o1,q1⟩:=(iP b u hu).ex
   exact all o1 q1 (NN b u hu) (.inl ⟨u,hu⟩)
  ·obtain⟨o1,q1⟩:=I.base.there b o' qJ (tF b)
   obtain⟨o2,q2⟩:=un.there b o1 q1 (by simp)
   exact all o2 q2 (I.LN qJ nb) (.inr ⟨o1,q1⟩)
 ·cases q:X.s₀.heap.get? e with
  | none=>rfl
  | some o=>
   obtain⟨o1,q1⟩:=I.base.there e o q (tF e)
   rw[new] at q1;cases q1
theorem JD(I:Inv X c_ σ H s)(bd:Bd X)(F:RQ X.prog X.w X.stack H H' s s' e C) :
  wpAny M X.A (leaving X.env (.ref e)) (fun _ IH=>RQ X.prog X.w X.outer X.H₀ H' X.s₀ IH e C) E s':=by
 obtain⟨B,t,fl,hB⟩:=F.fl
 have ZY:=fl
 rw[bd.stack] at ZY
 refine wpAny_leaves_onW (by rw[I.ok.frames,bd.stack]) bd.frame ZY fun P7 nP up=>?_
 exact JB I bd F.un F.os F.bare F.iP hB fl.2.2.1 nP up F.new F.free
theorem FP{vs:List Value}{h':Heap}(I:Inv X c_ σ H s)(bd:Bd X)(hx:Heap.MadeExcOf s.heap h' e (.ref C) vs) :
  wpAny M X.A (leaving X.env (.ref e)) (fun _ IH=>RQ X.prog X.w X.outer X.H₀ H X.s₀ IH e C) E {s with heap:=h'}:=by
 have NO:∀env∈X.stack,∀b,env.frame=some b→b∈uf X.stack:=fun env he b hb=>abM.mpr ⟨env,he,hb⟩
 have hF:=W.funFrames_hide I.stack NO
 have WO:H e=none:=by
  cases q:H e with
  | none=>rfl
  | some u=>
   obtain⟨o,ho⟩:=(I.iP e u q).ex
   rw[hx.new] at ho;cases ho
 have un:Un (uf X.stack) [] H H s.heap h':=Un.kept hx.keeps
 have hB:∀b o,h'.get? b=some o→b∉uf X.stack→((∃u,H b=some u)∨∃o',s.heap.get? b=some o')→(W.hideAll s.heap (uf X.stack)).get? b=some o:=fun b o hb nf c=>by
  have:∃o',s.heap.get? b=some o':=by
   rcases c with⟨u,hu⟩|c
   ·exact(I.iP b u hu).ex
   ·exact c
  obtain⟨o',qJ⟩:=this
  have z:=hx.keeps b o' qJ
  rw[hb] at z;cases z
  exact W.hideAll_get _ qJ nf
 have hF2:h'.FunFrames (W.hideAll s.heap (uf X.stack)) X.stack:=hF.of_keeps fun b o ho _=>⟨o,hx.keeps b o ho,rfl⟩
 refine wpAny_leaves_madeW (base:=W.hideAll s.heap (uf X.stack)) (h:=s.heap) (by rw[I.ok.frames,bd.stack]) bd.frame (fun b o q=>W.of_hideAll _ q) (by rw[←bd.stack];exact hF) hx fun P7 t nP tup nt up=>?_
 exact JB (s':={s with heap:=h'}) I bd un rfl I.bare (I.iP.kept hx.keeps) hB hF2 nP up hx.new WO
structure Bx(X:Cx)(E:XK):Prop where
 bd:Bd X
 calm:X.calm=true
 xe:∀ev s',wpAny (model X.prog X.w) X.A (leaving X.env ev) (fun _ IH=>tL X.prog X.w X.outer X.H₀ X.s₀ E ev IH) (fun e' IH=>tL X.prog X.w X.outer X.H₀ X.s₀ E e' IH) s'→X.xe ev s'
theorem bx{P:Program}{w:World}{K:Qqy}{mg:Qqx}{base:Heap}{N:List Str}{qual:Str}{scope:Scope}{f:Addr}{cd:Value}{A:Around}{outer:List Env}{s:Shared}{H:Hp}{E:XK} :
 Bx (wD (tL P w) P w K mg base N qual scope f cd A outer s H E) E:=⟨⟨rfl,rfl,rfl⟩,rfl,fun _ _ h=>h⟩
theorem Nu{EX:XK}(b:Bx X EX):Passes (tL X.prog X.w) X EX:=fun c_ σ H s ev s' I ⟨e,C,H',he,F,q⟩=>by
 subst he
 exact b.xe _ _ (i8 (JD I b.bd F) fun _ IH F'=>⟨e,C,H',rfl,F',q⟩)
theorem JE{P:Program}{w:World}{K:Qqy}{mg:Qqx}{base:Heap}{N:List Str}{qual:Str}{scope:Scope}{f:Addr}{cd:Value}{A:Around}{outer:List Env}{s:Shared}{H:Hp}{E:XK} :
 PassesOwn (model P w) (wD (tL P w) P w K mg base N qual scope f cd A outer s H E).A (wD (tL P w) P w K mg base N qual scope f cd A outer s H E).env (wD (tL P w) P w K mg base N qual scope f cd A outer s H E).xe:=PassesOwn.leaving
structure Exc(K:Qqy)(mg:Qqx)(x:Str)(C:Addr):Prop where
 m:mg x=some (.ref C)
 q:W.excIn K C [.type "ValueError",.type "Exception",.type "BaseException",.type "object"] "ValueError.__new__"=true
def ON(C:Addr)(EX:XK)(ta:TE):TS:=fun _ σ H=>ta σ H fun _ H1=>EX (.ref C) none H1
theorem L7{K:Qqy}{h:Heap}{C:Addr}{ZZ:List Value}{newId:String}(X:K.In h)(q:W.excIn K C ZZ newId=true):∃bm N nm q bs hdct sn sub ab col dd k0 k1 k2 k3 k5 mN,h.get? C=some (excClassObj nm q C N bs bm hdct sn sub ab col dd k0 k1 k2 k3 k5 newId)∧h.Ns N mN∧mN "__init__"=none∧OwnTail h ZZ bm:=by
 unfold W.excIn at q
 split at q
 ·rename_i dd cd sl ho
  split at q
  ·rename_i C' bm k0 k1 k2 k3 n k5 hm hs
   simp only [abp,ab2,Bool.not_eq_true'] at q
   obtain⟨⟨⟨⟨⟨rfl,rfl⟩,Tc⟩,ht⟩,iP⟩,QV⟩:=q
   obtain⟨nm,bs,mro,ns,qn,hd,sn,sub,ab,col,del⟩:=cd
   dsimp only at hm Tc iP QV
   subst hm Tc
   have UT:sl=#[k0,k1,k2,k3,some (.builtin n),k5]:=by
    obtain⟨l⟩:=sl
    simp only at hs
    rw[hs]
   subst UT
   exact⟨bm,ns,nm,qn,bs,hd,sn,sub,ab,col,dd,k0,k1,k2,k3,k5,_,X _ _ ho,.of_isNs (W.isNs_of_in X iP),W.nsMap_none_of_in X iP QV,W.tail_of_in X ht⟩
  ·cases q
 ·cases q
theorem j9{EX:XK}{x:Str}{a:Expr}{ta:TE}{np kY pos:Pos}(b:Bx X EX)(O:Exc X.K X.mg x C)(hg:Gl X x)(ha:PE X a ta)
  (Gx:(x ==("__debug__":Str))=false:=by decide) (hs:starEach [a] X.env=[(false,eval a X.env)]:=by rfl):PS X (.Raise (some (.Call (.Name x np) [a] [] kY)) none pos) (ON C EX ta):=by
 intro c_ s σ H D I h
 obtain⟨bm,N,nm,q,bs,hdct,sn,sub,ab,col,dd,k0,k1,k2,k3,k5,mN,hC,hN,QV,T⟩:=L7 I.ok.mod.QG O.q
 refine wpAny_Raise_call_subT (C:=C) (nm:=nm) (q:=q) (N:=N) (bs:=bs) (bm:=bm) (hdct:=hdct) (sn:=sn) (sub:=sub) (ab:=ab) (col:=col) (dd:=dd) (k0:=k0) (k1:=k1) (k2:=k2) (k3:=k3) (k5:=k5)
  PySem.F.excBase_ValueError (mN:=mN) (T.hasType (by decide)) (I.ok.hd b.calm) (by rw[hs];rfl) QV (uV I hg O.m ⟨rfl,?_⟩ Gx)
 rw[hs]
 refine abo ?_
 refine abb (i8 (ha c_ s σ H _ I h) fun u s1 iM=>?_)
 obtain⟨y,H1,I1,r1,q1⟩:=iM
 refine abv ?_
 have hk:=I1.bk
 refine⟨rfl,by show 1≤sizeLine;decide,hk _ _ hC,hN.keeps hk,T.keeps hk,fun h' e hm=>?_⟩
 exact b.xe _ _ (i8 (FP I1 b.bd hm) fun _ IH F=>⟨e,C,H1,rfl,F,q1⟩)
end
section
variable{P:Program}{w:World}{K:Qqy}{mg:Qqx}{base:Heap}
theorem xI.ok1{x qual:Str}{st:Stmt}{f:Addr}{fd:FuncData}{N ps:List Str}{k:Nat}{sp:Sp}(F:xI K x qual st f fd)(S:gB N ps (gc st))(len:∀vs H Q E,sp vs H Q E→vs.length=ps.length)
  (wk:∀(js:Value)(A:Around)(outer:List Env)(s:Shared)(H:Hp)(vs:List V)(Q:VK)(E:XK),kD k (A.deeper (envOfC qual (gc st) s.heap.objs.size f js))→sp vs H Q E→
   ∃t,Fn (wD (tL P w) P w K mg base N qual (gc st) f js A outer s H E) (k_ st) t∧t {nx:=fun _ H'=>Q .jo H',rt:=Q} (start N vs) H):ip P w K mg base (tL P w) (k+1) f fd ps sp:=by
 obtain⟨oc,od,kV,doc,pm,an,js,ct,IV,rfl,lk,Cg⟩:=F.ex
 exact Np lk Cg S len fun A outer s H vs Q E hr LC=>wk js A outer s H vs Q E hr LC
theorem ip.DR{k:Nat}{f:Addr}{fd:FuncData}{ps:List Str}{sp:Sp}(F:ip P w K mg base (tL P w) k f fd ps sp):ip P w K mg base mU k f fd ps (fun vs H Q _=>sp vs H Q E0):=
 ⟨fun vs H Q E h=>F.len vs H Q E0 h,fun A outer s H args us vs Q E hr e0 hb hv hs=>codeAny_mono (F.run A outer s H args us vs Q E0 hr e0 hb hv hs) fun r s' h=>by
  cases r with
  | error e=>obtain⟨_,_,_,_,_,z⟩:=h;exact z
  | ok fl=>cases fl<;>exact h⟩
end
section
variable{X:Cx}
def PF(X:Cx)(k:Nat)(es:List Expr)(t:TE):Prop:=
 ∀(acc:Str)(c_:Qqz)(s:Shared)(σ:St)(H:Hp)(Q:VK),acc.length≤k*1048576→Inv X c_ σ H s→t σ H Q→wpAny (model X.prog X.w) X.A (joinParts acc (evalEach es X.env)) (EP X c_ σ Q) X.xe s
def tFn:TE:=fun _ H Q=>∀x,Q (.str x) H
def tFc(te t:TE):TE:=fun σ H Q=>te σ H fun v H1=>∃y,v=.str y∧y.length≤1048576∧t σ H1 Q
theorem nX{k:Nat}(hk:k≤8:=by decide):PF X k [] tFn:=fun acc c_ s σ H Q hl I h=>
 joinParts_nil (hsz:=by have:sizeLine=16777216:=rfl;omega) ⟨.str acc,H,I.tok _,⟨_,rfl⟩,h acc⟩
theorem ix{k:Nat}{e:Expr}{es:List Expr}{te t:TE}(he:PE X e te)(hr:PF X (k+1) es t)(hk:k≤7:=by decide)(hs:evalEach (e::es) X.env=eval e X.env::evalEach es X.env:=by rfl):PF X k (e::es) (tFc te t):=by
 intro acc c_ s σ H Q hl I h
 rw[hs]
 refine joinParts_cons (i8 (he c_ s σ H _ I h) fun u s1 iM=>?_)
 obtain⟨v,H1,I1,r1,y,ev,hy,q⟩:=iM
 subst ev
 obtain⟨t',rfl⟩:=r1
 have e1:(acc++y).length=acc.length+y.length:=strLen_append ..
 exact⟨by rw[e1];have:sizeLine=16777216:=rfl;omega,hr (acc++y) c_ s1 σ H1 Q (by rw[e1];omega) I1 q⟩
theorem lK{e1 e2:Expr}{es:List Expr}{t:TE}{pos:Pos}(h:PF X 0 (e1::e2::es) t):PE X (.JoinedStr (e1::e2::es) pos) t:=fun c_ s σ H Q I hq=>by
 rw[arm_eval_JoinedStr]
 exact h Str.empty c_ s σ H Q (by decide) I hq
def tFr(te:TE):TE:=fun σ H Q=>te σ H fun v H1=>∃x,v=.str x∧(reprText x).length≤1048576∧Q (.str (reprText x)) H1
theorem mX{e:Expr}{te:TE}{pos:Pos}(he:PE X e te):PE X (.FormattedValue e 114 none pos) (tFr te):=by
 intro c_ s σ H Q I h
 refine wpAny_FormattedValue_repr (i8 (he c_ s σ H _ I h) fun u s1 iM=>?_)
 obtain⟨v,H1,I1,r1,x,ev,hy,q⟩:=iM
 subst ev
 obtain⟨t',rfl⟩:=r1
 have hz:(reprText x).length≤sizeLine:=aac hy (by decide)
 refine wpAny_pyReprObj_str (hsz:=hz) ?_
 exact formatField_str (fun ZX tk=>⟨.str (reprText x),H1,I1.tok _,⟨_,rfl⟩,q⟩) hz
end
section
variable{X:Cx}{c_:Qqz}{σ:St}{H:Hp}{s:Shared}{tg:Expr}
def zF(X:Cx)(d:Addr):Prop:=∀o u,X.H₀ d≠some (.nA o u)
theorem JF{u:HO}(mu:Nh (some u)):(∀xs,u≠.tup xs)∧(∀o v,u≠.nA o v)∧(∀ps,u≠.Lz ps)∧∀x,u≠.own x:=by
 cases u<;>first|exact False.elim mu|exact⟨(fun _ z=>nomatch z),(fun _ _ z=>nomatch z),(fun _ z=>nomatch z),(fun _ z=>nomatch z)⟩
theorem Inv.OO{d:Addr}{u:HO}(I:Inv X c_ σ H s)(hd:H d=some u)(mu:Nh (some u)):zF X d:=fun o v z=>by
 have:=I.base.uT d o v z
 rw[hd] at this
 exact(JF mu).2.1 o v (aau this)
theorem Inv.JG{d:Addr}{u v:HO}(I:Inv X c_ σ H s)(hd:H d=some u)(nt:∀xs,u≠.tup xs)(nb:∀ps,u≠.Lz ps)(no:∀x,u≠.own x)(nf:zF X d)(new:i9 X.prog X.w (upd H d v) s.heap d v):Inv X c_ σ (upd H d v) s:=by
 have ne:∀b,H b=none→b≠d:=fun b e z=>by rw[z,hd] at e;cases e
 refine⟨I.ok,I.os,I.bare,⟨I.base.keep,I.base.slot,fun b o q n hx=>by rw[e_ (ne b (I.base.free b o q n hx))];exact I.base.free b o q n hx,I.base.there,fun b xs q=>?_,fun b o w q=>?_,fun b ps q=>?_⟩,I.loc,I.cell,by rw[e_ (ne _ I.free)];exact I.free,fun x c e=>by rw[e_ (ne _ (I.pJ x c e))];exact I.pJ x c e,fun p hp=>?_,fun b o e=>?_,I.len⟩
 ·have z:=I.base.rj b xs q
  have:b≠d:=fun y=>by rw[y,hd] at z;exact nt xs (aau z)
  rw[e_ this];exact z
 ·have z:=I.base.uT b o w q
  have:b≠d:=fun y=>by rw[y] at q;exact nf o w q
  rw[e_ this];exact z
 ·obtain⟨m,z⟩:=I.base.yF b ps q
  have:b≠d:=fun y=>by rw[y,hd] at z;exact nb _ (aau z)
  exact⟨m,by rw[e_ this];exact z⟩
 ·obtain⟨e1,e2,e3⟩:=I.pin p hp
  exact⟨e1,by rw[e_ (ne _ e2)];exact e2,e3⟩
 ·by_cases hb:b=d
  ·subst hb;rw[b_] at e;cases e;exact new
  ·rw[e_ hb] at e
   refine(I.iP b o e).zh (fun _ _ _ q=>q) (fun c q=>?_) fun c xs q=>?_
   ·have:c≠d:=fun y=>by rw[y,hd] at q;exact no _ (aau q)
    rw[e_ this];exact q
   ·have:c≠d:=fun y=>by rw[y,hd] at q;exact nt _ (aau q)
    rw[e_ this];exact q
theorem Inv.frozen{d:Addr}{u:HO}(I:Inv X c_ σ H s)(hd:H d=some u)(mu:Nh (some u)):∃o,s.heap.get? d=some o∧Inv X c_ σ (upd H d (.nA o u)) s:=by
 obtain⟨o,ho⟩:=(I.iP d u hd).ex
 obtain⟨m1,m2,m3,m4⟩:=JF mu
 refine⟨o,ho,I.JG hd m1 m3 m4 (I.OO hd mu) ⟨ho,?_⟩⟩
 refine(I.iP d u hd).zh (fun _ _ _ q=>q) (fun c q=>?_) fun c xs q=>?_
 ·have:c≠d:=fun y=>by rw[y,hd] at q;exact m4 _ (aau q)
  rw[e_ this];exact q
 ·have:c≠d:=fun y=>by rw[y,hd] at q;exact m1 _ (aau q)
  rw[e_ this];exact q
theorem Inv.wL{d:Addr}{o:Obj}{u:HO}(I:Inv X c_ σ H s)(hd:H d=some (.nA o u))(nf:zF X d):Inv X c_ σ (upd H d u) s:=by
 refine I.JG hd (fun _ z=>by cases z) (fun _ z=>by cases z) (fun _ z=>by cases z) nf ?_
 obtain⟨_,q⟩:=(show i9 X.prog X.w H s.heap d (.nA o u) from I.iP d _ hd)
 refine q.zh (fun _ _ _ q=>q) (fun c q=>?_) fun c xs q=>?_
 ·have:c≠d:=fun y=>by rw[y,hd] at q;cases q
  rw[e_ this];exact q
 ·have:c≠d:=fun y=>by rw[y,hd] at q;cases q
  rw[e_ this];exact q
def RS(X:Cx)(t:TE):TE:=fun σ H Q=>t σ H fun v H2=>∃d o u,H2 d=some (.nA o u)∧zF X d∧Q v (upd H2 d u)
theorem GX{e:Expr}{t:TE}(h:PE X e t):PE X e (RS X t):=fun c_ s σ H Q I hq=>
 i8 (h c_ s σ H _ I hq) fun v s' ⟨x,H',I',r,d,o,u,hd,nf,q⟩=>⟨x,_,I'.wL hd nf,r,q⟩
noncomputable def Ends.V9(X:Cx)(D:Ends):Ends where
 nx:=fun σ H2=>∃d o u,H2 d=some (.nA o u)∧zF X d∧D.nx σ (upd H2 d u)
 rt:=fun v H2=>∃d o u,H2 d=some (.nA o u)∧zF X d∧D.rt v (upd H2 d u)
 bk:=fun σ H2=>∃d o u,H2 d=some (.nA o u)∧zF X d∧D.bk σ (upd H2 d u)
 ct:=fun σ H2=>∃d o u,H2 d=some (.nA o u)∧zF X d∧D.ct σ (upd H2 d u)
theorem yZ{st:Stmt}{t:TS}(h:PS X st t):PS X st (fun D σ H=>t (D.V9 X) σ H):=fun c_ s σ H D I hq=>i8 (h c_ s σ H _ I hq) fun f s' q=>by
 cases f with
 | next=>obtain⟨σ',H',I',d,o,u,hd,nf,q⟩:=q;exact⟨σ',_,I'.wL hd nf,q⟩
 | brk=>obtain⟨σ',H',I',d,o,u,hd,nf,q⟩:=q;exact⟨σ',_,I'.wL hd nf,q⟩
 | cont=>obtain⟨σ',H',I',d,o,u,hd,nf,q⟩:=q;exact⟨σ',_,I'.wL hd nf,q⟩
 | ret v=>obtain⟨x,σ',H',I',r,d,o,u,hd,nf,q⟩:=q;exact⟨x,σ',_,I'.wL hd nf,r,q⟩
theorem CB{H:Hp}{d p:Addr}{u f o:HO}(hd:H d=some u)(hp:p≠d):upd (upd (upd H d f) p o) d u=upd H p o:=by
 funext b
 by_cases h1:b=d
 ·subst h1;rw[b_,e_ (abJ hp),hd]
 ·rw[e_ h1]
  by_cases h2:b=p
  ·subst h2;rw[b_,b_]
  ·rw[e_ h2,e_ h2,e_ h1]
theorem wM{H:Hp}{d:Addr}{u f:HO}(hd:H d=some u):upd (upd H d f) d u=H:=by
 rw[LJ]
 funext b
 by_cases h1:b=d
 ·subst h1;rw[b_,hd]
 ·rw[e_ h1]
noncomputable def QL(d:Addr)(o:Obj)(kvs:List (Key×V)):It:=
 ⟨fun i H=>H d=some (.nA o (.dK kvs))∧i<kvs.length,fun i H x H'=>H'=H∧∃k v,kvs[i]?=some (k,v)∧x=kV k,fun i H=>H d=some (.nA o (.dK kvs))∧kvs.length≤i⟩
theorem L8{P:Program}{w:World}{k:Key}{u:Value}(h:(jf P w).is k u=true):RelV (kV k) u:=by
 rcases jn (show zg k u=true from h) with⟨i,t,rfl,rfl⟩|⟨x,t,rfl,rfl⟩
 ·exact⟨t,rfl⟩
 ·exact⟨t,rfl⟩
theorem JH{P:Program}{w:World}{h:Heap}{d:Addr}{o:Obj}{kvs:List (Key×V)}{es:Array DictEntry}{ep:Nat}(hd:o.data=.dict es ep)(q:i9 P w H h d (.nA o (.dK kvs))):(d ==sysModules)=false∧kvs.length≤sizeLine∧∃vs,KV kvs vs∧h.DictAt (jf P w) d vs ep:=by
 obtain⟨ho,hz,hs,vs,kv,o',QS,NJ,qJ,h1,h2,h3⟩:=q
 rw[ho] at qJ;cases qJ
 rw[hd] at h2;cases h2
 exact⟨hs,hz,vs,kv,o,es,ho,h1,hd,h3⟩
theorem KV.at{κ:Type}{kvs:List (κ×V)}{vs:List (κ×Value)}(r:KV kvs vs):∀{i:Nat} {k:κ} {u:Value},vs[i]?=some (k,u)→∃v,kvs[i]?=some (k,v)∧RelV v u:=by
 induction r with
 | nil=>intro i k u e;simp at e
 | cons f t ih=>
  intro i k u e
  cases i with
  | zero=>
   simp at e
   subst e
   exact⟨_,aa4 some (Prod.ext f.1 rfl),f.2⟩
  | succ i=>
   obtain⟨v,h1,h2⟩:=ih (by simpa using e)
   exact⟨v,by simpa using h1,h2⟩
theorem HS{P:Program}{w:World}{K:Qqy}(d it:Addr)(o:Obj)(es:Array DictEntry)(ep:Nat)(kvs:List (Key×V))(Lb:o.data=.dict es ep):Turn P w K tg (QL d o kvs) [it] it (fun i h=>h.IsKeyIter it d i kvs.length ep) where
 mem:=by simp
 obj:=fun i h st b hb=>by
  have e:b=it:=by simpa using hb
  subst e
  obtain⟨o,e,c,d⟩:=st
  exact⟨o,e,fun v z=>by rw[d] at z;cases z⟩
 keep:=fun i h h' st k=>st.at fun o e=>k it (by simp) o e
 item:=by
  intro X hP hw hK hc i c_ s σ H E I hf st hg
  subst hP hw hK
  obtain⟨hd,hi⟩:=hg
  obtain⟨_,_,vs,kv,da⟩:=JH Lb (I.iP d _ hd)
  have hl:kvs.length=vs.length:=kv.length
  have Bt:i<vs.length:=by omega
  obtain⟨⟨k,u⟩,hx⟩:∃p,vs[i]?=some p:=⟨vs[i],by simp[Bt]⟩
  obtain⟨v,hv,_⟩:=kv.at hx
  obtain⟨f0,f1,f2,f3,f4,f5⟩:=hf it (by simp)
  rw[hl] at st
  refine wpAny_pyNext_dict_item st da hx fun key h' P0 Bp sb=>?_
  have I1:Inv X c_ σ H {s with heap:=h'}:=I.turned (t':=s.toks) (fun b o hb e=>(sb.2 b hb).trans e) f0 f1 f3 f4 f5
  obtain⟨o',e,c,dd⟩:=id Bp
  exact⟨key,rfl,zj (s:={s with heap:=h'}) e c dd (by decide) ⟨kV k,H,I1,L8 P0,⟨rfl,k,v,hv,rfl⟩,by rw[hl];exact Bp,fun b hb=>(hf b hb).1⟩⟩
 done:=by
  intro X hP hw hK hc i c_ s σ H E I hf st hg
  subst hP hw hK
  obtain⟨hd,hi⟩:=hg
  obtain⟨_,_,vs,kv,da⟩:=JH Lb (I.iP d _ hd)
  have hl:kvs.length=vs.length:=kv.length
  obtain⟨f0,f1,f2,f3,f4,f5⟩:=hf it (by simp)
  rw[hl] at st
  exact wpAny_pyNext_dict_end (I.ok.hd hc) st da (by simp;omega) fun h' eb=>⟨rfl,I.turned (t':=s.toks) (fun b o hb e=>eb b o hb e) f0 f1 f3 f4 f5⟩
 self:=fun _ _ _ _ _ st h=>wpAny_pyIter_keyiter st h
def RT(X:Cx)(td:TE):TI:=fun σ H R=>td σ H fun x H1=>∃d kvs,x=.ref d∧H1 d=some (.dK kvs)∧∀o,zF X d→R (QL d o kvs) (upd H1 d (.nA o (.dK kvs)))
theorem CC{l:Expr}{td:TE}(hl:PE X l td):PI X tg l (RT X td):=by
 intro c_ s σ H R I h
 refine i8 (hl c_ s σ H _ I h) fun v s1 iM=>?_
 obtain⟨x,H1,I1,r1,q1⟩:=iM
 obtain⟨d,kvs,e,hd,q⟩:=q1
 subst e
 cases r1
 have nf:=I1.OO hd True.intro
 obtain⟨o,ho,I2⟩:=I1.frozen hd True.intro
 obtain⟨_,hs,vs,kv,o',es,ep,qJ,h1,h2,h3⟩:=(show i9 X.prog X.w H1 s1.heap d (.dK kvs) from I1.iP d _ hd)
 rw[ho] at qJ;cases qJ
 refine wpAny_pyIter_dict (kvs:=vs) (ep:=ep) hs ⟨o,es,ho,h1,h2,h3⟩ ?_
 refine⟨s1.heap.objs.size,[s1.heap.objs.size],_,_,_,rfl,I2.kept (t':=s1.toks) fun b o e=>aag _ e,HS d _ o es ep kvs h2,⟨_,aaC _ rfl,rfl,by rw[kv.length];rfl⟩,fun b hb=>?_,q o nf⟩
 have e:b=s1.heap.objs.size:=by simpa using hb
 subst e
 exact I2.zi (ZA _) (I2.iP.fresh (ZA _))
theorem JI{d:Addr}{o:Obj}{kvs:List (Key×V)}{g:TG}{tb:TS}{D:Ends}{σ:St}{H:Hp}(Pv:Nat→St→Hp→Prop)(h0:Pv 0 σ H)(hl:∀i σ H,Pv i σ H→H d=some (.nA o (.dK kvs)))
  (hs:∀i k v σ H,kvs[i]?=some (k,v)→Pv i σ H→g (kV k) σ H fun σ2 H2=>tb {D with nx:=Pv (i+1),ct:=Pv (i+1),bk:=D.nx} σ2 H2) (hd:∀σ H,Pv kvs.length σ H→D.nx σ H) :
  ∃W:Nat→Nat→St→Hp→Prop,(∃m,W 0 m σ H)∧∀i m σ H,W i m σ H→
   ((QL d o kvs).stop i H∧D.nx σ H)∨((QL d o kvs).go i H∧∃N:St→Hp→Prop,(∀σ' H',N σ' H'→∃m',m'<m∧W (i+1) m' σ' H')∧∀x H',(QL d o kvs).Jg i H x H'→g x σ H' fun σ2 H2=>tb {D with nx:=N,ct:=N,bk:=D.nx} σ2 H2):=by
 refine⟨fun i m σ H=>m=kvs.length-i∧i≤kvs.length∧Pv i σ H,⟨kvs.length,by simp,aaI _,h0⟩,?_⟩
 rintro i m σ H ⟨rfl,hi,p⟩
 have q:=hl i σ H p
 by_cases kU:i<kvs.length
 ·refine .inr ⟨⟨q,kU⟩,Pv (i+1),fun σ' H' p'=>⟨kvs.length-(i+1),by omega,rfl,kU,p'⟩,fun x H' y=>?_⟩
  obtain⟨e,k,v,y,rfl⟩:=y
  subst e
  exact hs i k v σ _ y p
 ·have e:i=kvs.length:=by omega
  subst e
  exact .inl ⟨⟨q,ZA _⟩,hd σ H p⟩
theorem GY{d:Addr}{o:Obj}{kvs:List (Key×V)}{g:TG}{tt:TT}{te:TE}{Q:List V→Hp→Prop}{σ:St}{H:Hp}(hn:kvs.length≤sizeLine)(Pv:Nat→List V→St→Hp→Prop)(h0:Pv 0 [] σ H)(hl:∀i ys σ H,Pv i ys σ H→H d=some (.nA o (.dK kvs))∧ys.length≤i)
  (hs:∀i k v ys σ H,kvs[i]?=some (k,v)→Pv i ys σ H→g (kV k) σ H fun σ2 H2=>tt σ2 H2 fun b H3=>if b=true then te σ2 H3 fun v H4=>Pv (i+1) (ys++[v]) σ2 H4 else Pv (i+1) ys σ2 H3)
  (hd:∀ys σ H,Pv kvs.length ys σ H→Q ys H):HR g tt te (QL d o kvs) Q σ H:=by
 refine⟨fun i m ys σ H=>m=kvs.length-i∧i≤kvs.length∧Pv i ys σ H,⟨kvs.length,by simp,aaI _,h0⟩,?_⟩
 rintro i m ys σ H ⟨rfl,hi,p⟩
 obtain⟨q,hy⟩:=hl i ys σ H p
 by_cases kU:i<kvs.length
 ·refine .inr ⟨⟨q,kU⟩,by omega,Pv (i+1),fun QU σ' H' p'=>⟨kvs.length-(i+1),by omega,rfl,kU,p'⟩,fun x H' y=>?_⟩
  obtain⟨e,k,v,y,rfl⟩:=y
  subst e
  exact hs i k v ys σ _ y p
 ·have e:i=kvs.length:=by omega
  subst e
  exact .inl ⟨⟨q,ZA _⟩,by omega,hd ys σ H p⟩
theorem sX{α β:Type}{F:α→β→Prop}:∀{xs:List α} {ys:List β},xs.length=ys.length→(∀(i:Nat) a b,xs[i]?=some a→ys[i]?=some b→F a b)→Paired F xs ys
 | [],[],_,_=>.nil
 | [],_::_,e,_=>by simp at e
 | _::_,[],e,_=>by simp at e
 | x::xs,y::ys,e,h=>.cons (h 0 x y rfl rfl) (sX (by simpa using e) fun i a b ha hb=>h (i+1) a b (by simpa using ha) (by simpa using hb))
end
section
variable{X:Cx}{CX:GQ}{k:Nat}{f C:Addr}{fd:FuncData}{ps:List Str}{sp:Sp}{ze:List V}{ds:List Value}{E:XK}{x m:Str}{p pos apos:Pos}{e o:Expr}{es:List Expr}{ta:TE}{t:TA}{σ₀:St}
end
section
variable{X:Cx}{c_ pn:Qqz}{σ:St}{H:Hp}{s:Shared}{E:Qqq}{e:Addr}
end
section
variable{X:Cx}{c_:Qqz}{σ:St}{H:Hp}{s:Shared}{M:Model}{A:Around}{E:Qqq}
end
section
variable{P:Program}{w:World}{K:Qqy}{mg:Qqx}{base:Heap}
end
section
variable{X:Cx}{k:Nat}{f:Addr}{fd:FuncData}{ps:List Str}{sp:Sp}{x:Str}{p pos:Pos}{e:Expr}{es:List Expr}{t:TA}
end
open PySem PySem.Spec PyProof.Rows PySem.W PySem.Builtin PySem.Builtin.ObjectAttr PySem.Builtin.Getset_descriptor
section
variable{K:Qqy}{e C:Addr}{prog:Program}{w:World}{A:Around}{E:Qqq}{h:Heap}{g:Array GenState}{d:Drawn}{t:Nat}{os:OsState}
end
theorem j0{xs:List V}(h:xs.length≤15:=by simp):xs.length≤sizeLine:=aac h (by decide)
theorem gH{α:Type}{xs:List α}{i:Int}{j:Nat}{v:α}(e:i=(j:Int))(h:xs[j]?=some v):AZ xs i=some v:=by subst e;exact LU h
theorem CD{n:Nat}{i:Int}{j:Nat}(e:i=(j:Int))(h:j<n):HJ n i=some j:=by
 subst e
 unfold HJ
 rw[aap (by omega),aap (by omega)]
 simp
theorem gm.upd{H H':Hp}{p:Addr}{o:HO}(s:gm H H')(h:H p=none):gm H (L2.upd H' p o):=fun b u e=>by rw[e_ (gj e h)];exact s b u e
theorem gm.new{H H':Hp}{p:Addr}{o:HO}(s:gm H H')(h:H' p=none):gm H (L2.upd H' p o):=s.upd (s.free h)
def Wa(t:TS):TS:=fun D σ H=>∃J:St→Hp→Prop,t {D with nx:=J} σ H∧∀σ' H',J σ' H'→D.nx σ' H'
theorem SP.nx{X:Cx}{c_:Qqz}{D:Ends}{J:St→Hp→Prop}{f:Flow}{s:Shared}(hJ:∀σ' H',J σ' H'→D.nx σ' H')(h:SP X c_ {D with nx:=J} f s):SP X c_ D f s:=by
 cases f with
 | next=>obtain⟨σ,H,I,q⟩:=h;exact⟨σ,H,I,hJ _ _ q⟩
 | brk=>exact h
 | cont=>exact h
 | ret u=>exact h
theorem rF{X:Cx}{st:Stmt}{t:TS}(h:PS X st t):PS X st (Wa t):=fun c_ s σ H D I ⟨J,h1,h2⟩=>i8 (h c_ s σ H _ I h1) fun f s' q=>SP.nx h2 q
theorem nY{α:Type}{xs:List α}{i:Int}(h0:0≤i)(h:i<(xs.length:Int)):∃v,AZ xs i=some v∧xs[i.toNat]?=some v:=by
 have hi:i.toNat<xs.length:=by omega
 exact⟨xs[i.toNat],gH (j:=i.toNat) (by omega) (Wd hi),Wd hi⟩
theorem JJ{b:Bool}{A B:Prop}(e:b=false)(h:B):if b=true then A else B:=by subst e;exact jz h
theorem JK{b:Bool}{A B:Prop}(e:b=true)(h:A):if b=true then A else B:=by subst e;exact l7 h
theorem mod_lt(a b:Int)(h:0<b):0≤a%b∧a%b<b:=⟨Int.emod_nonneg a (by omega),Int.emod_lt_of_pos a h⟩
noncomputable abbrev gp(l:List Str):List V:=l.map V.str
theorem jg(xs:List Str)(x:Str):gp xs++[V.str x]=gp (xs++[x]):=by unfold gp;rw[aar];rfl
theorem mL(x y:List Str):gp x++gp y=gp (x++y):=by unfold gp;rw[aar]
theorem oO{l:List Str}{j:Nat}{x:Str}(h:l[j]?=some x):(gp l)[j]?=some (V.str x):=by rw[aam,h];rfl
theorem lb{l:List Str}{j:Nat}{v:V}(h:(gp l)[j]?=some v):∃x,l[j]?=some x∧v=V.str x:=by
 rw[aam] at h
 cases e:l[j]? with
 | none=>rw[e] at h;cases h
 | some x=>rw[e] at h;cases h;exact⟨x,rfl,rfl⟩
theorem OP{A:Around}{k:Nat}(hr:kD k A){n:Nat}(h:n≤60:=by decide):A.units+n+1<cLine:=by have:=hr.units;omega
theorem il{H:Hp}{a q:Addr}{o u:HO}(hq:H q=none)(h:H a=some o):upd H q u a=some o:=by rw[e_ (gj h hq)];exact h
theorem JC{t0 t1:TS}{D:Ends}{σ:St}{H:Hp}(h:let v1:=t1;ic t0 v1 D σ H):ic t0 t1 D σ H:=h
theorem Fp{t0 t1 t2:TS}{D:Ends}{σ:St}{H:Hp}(h:let v2:=t2;let v1:=ic t1 v2;ic t0 v1 D σ H):ic t0 (ic t1 t2) D σ H:=h
theorem OQ{t0 t1 t2 t3:TS}{D:Ends}{σ:St}{H:Hp}(h:let v3:=t3;let v2:=ic t2 v3;let v1:=ic t1 v2;ic t0 v1 D σ H):ic t0 (ic t1 (ic t2 t3)) D σ H:=h
theorem QM{t0 t1 t2 t3 t4:TS}{D:Ends}{σ:St}{H:Hp}(h:let v4:=t4;let v3:=ic t3 v4;let v2:=ic t2 v3;let v1:=ic t1 v2;ic t0 v1 D σ H):ic t0 (ic t1 (ic t2 (ic t3 t4))) D σ H:=h
theorem RU{t0 t1 t2 t3 t4 t5:TS}{D:Ends}{σ:St}{H:Hp}(h:let v5:=t5;let v4:=ic t4 v5;let v3:=ic t3 v4;let v2:=ic t2 v3;let v1:=ic t1 v2;ic t0 v1 D σ H):ic t0 (ic t1 (ic t2 (ic t3 (ic t4 t5)))) D σ H:=h
theorem ZE{t0 t1 t2 t3 t4 t5 t6:TS}{D:Ends}{σ:St}{H:Hp}(h:let v6:=t6;let v5:=ic t5 v6;let v4:=ic t4 v5;let v3:=ic t3 v4;let v2:=ic t2 v3;let v1:=ic t1 v2;ic t0 v1 D σ H):ic t0 (ic t1 (ic t2 (ic t3 (ic t4 (ic t5 t6))))) D σ H:=h
theorem sl9{t0 t1 t2 t3 t4 t5 t6 t7 t8:TS}{D:Ends}{σ:St}{H:Hp}(h:let v8:=t8;let v7:=ic t7 v8;let v6:=ic t6 v7;let v5:=ic t5 v6;let v4:=ic t4 v5;let v3:=ic t3 v4;let v2:=ic t2 v3;let v1:=ic t1 v2;ic t0 v1 D σ H):ic t0 (ic t1 (ic t2 (ic t3 (ic t4 (ic t5 (ic t6 (ic t7 t8))))))) D σ H:=h
theorem IT{w:TI}{g:TG}{b u:TS}{D:Ends}{σ:St}{H:Hp}(h:let v:=b;ic (Ol w g v) u D σ H):ic (Ol w g b) u D σ H:=h
noncomputable abbrev rr(a:Addr):Option V:=some (.ref a)
noncomputable abbrev rs(x:Str):Option V:=some (.str x)
noncomputable abbrev ri(i:Int):Option V:=some (.int i)
section
variable{X:Cx}{tg:Expr}
noncomputable def QN(x:Str):It:=⟨fun i _=>i<x.length,fun i H v H'=>H'=H∧∃c,x.cps[i]?=some c∧v=.str ⟨#[c]⟩,fun i _=>i=x.length⟩
theorem BM{P:Program}{w:World}{K:PySem.W.Frag}(it:Addr)(ty:String)(x:Str)(t:Tok)(SS:["enumerate","zip","dict_itemiterator","dict_reverseitemiterator","odict_iterator","itertools.zip_longest","itertools.pairwise"].contains ty=false)
  (W:∀A:Around,A.handled=none→Walks P w A it [it] [it] x.cps.size (SignAt x) (fun i h=>h.IsStrIter it ty x t i))
  (self:∀(A:Around)(i:Nat)(s:Shared)(Q:Qqq)(E:Qqq),s.heap.IsStrIter it ty x t i→Q (.ref it) s→wpAny (model P w) A (pyIter (.ref it)) Q E s):Turn P w K tg (QN x) [it] it (fun i h=>h.IsStrIter it ty x t i) where
 mem:=by simp
 obj:=fun i h st b hb=>by
  have e:b=it:=by simpa using hb
  subst e
  obtain⟨o,e,c,d⟩:=st
  exact⟨o,e,fun v z=>by rw[d] at z;cases z⟩
 keep:=fun i h h' ⟨o,ho,r⟩ k=>⟨o,k it (by simp) o ho,r⟩
 item:=by
  intro X hP hw hK hc i c_ s σ H E I hf st hg
  subst hP hw hK
  obtain⟨f0,f1,f2,f3,f4,f5⟩:=hf it (by simp)
  refine(W X.A (I.ok.hd hc)).item i s _ _ hg st fun v h' tk hv Bp kk=>?_
  obtain⟨c,t',Cf,rfl⟩:=hv
  have I1:Inv X c_ σ H {s with heap:=h',toks:=tk}:=I.turned (fun b o hb e=>kk b o (by simpa using hb) e) f0 f1 f3 f4 f5
  obtain⟨o',e,cc,dd⟩:=id Bp
  exact⟨_,rfl,zj (s:={s with heap:=h',toks:=tk}) e cc dd SS ⟨.str ⟨#[c]⟩,H,I1,⟨t',rfl⟩,⟨rfl,c,Cf,rfl⟩,Bp,fun b hb=>(hf b hb).1⟩⟩
 done:=by
  intro X hP hw hK hc i c_ s σ H E I hf st hg
  subst hP hw hK
  obtain⟨f0,f1,f2,f3,f4,f5⟩:=hf it (by simp)
  have e:i=x.cps.size:=hg
  subst e
  exact(W X.A (I.ok.hd hc)).done s _ _ st fun h' tk kk=>⟨rfl,I.turned (fun b o hb e=>kk b o (by simpa using hb) e) f0 f1 f3 f4 f5⟩
 self:=self
def RV(te:TE):TI:=fun σ H R=>te σ H fun v H1=>∃x,v=.str x∧R (QN x) H1
theorem OR{l:Expr}{te:TE}(hl:PE X l te):PI X tg l (RV te):=by
 intro c_ s σ H R I h
 refine i8 (hl c_ s σ H _ I h) fun v s1 iM=>?_
 obtain⟨y,H1,I1,r1,x,e,q⟩:=iM
 subst e
 obtain⟨t,rfl⟩:=r1
 have fin:∀(ty:String)(T:Turn X.prog X.w X.K tg (QN x) [s1.heap.objs.size] s1.heap.objs.size (fun i h=>h.IsStrIter s1.heap.objs.size ty x t i)),
   VJ X c_ σ tg R (.ref s1.heap.objs.size) {s1 with heap:=s1.heap.push {cls:=.type ty,data:=.fields #[.str x t,.int 0 0]}}:=fun ty T=>by
  refine⟨s1.heap.objs.size,[s1.heap.objs.size],_,_,H1,rfl,I1.kept (t':=s1.toks) fun b o e=>aag _ e,T,⟨_,aaC _ rfl,rfl,rfl⟩,fun b hb=>?_,q⟩
  have e:b=s1.heap.objs.size:=by simpa using hb
  subst e
  exact I1.zi (ZA _) (I1.iP.fresh (ZA _))
 cases ha:x.cps.all (·<128)
 ·exact wpAny_pyIter_wide ha (fin _ (BM _ _ x t (by decide) (fun A hh=>Walks.strWide hh _ x t) fun _ _ _ _ _ st h=>wpAny_pyIter_striter_wide st h))
 ·exact wpAny_pyIter_ascii ha (fin _ (BM _ _ x t (by decide) (fun A hh=>Walks.strAscii hh _ x t) fun _ _ _ _ _ st h=>wpAny_pyIter_striter_ascii st h))
theorem JL{x:Str}{g:TG}{tb:TS}{D:Ends}{σ:St}{H:Hp}(Pv:Nat→St→Hp→Prop)(h0:Pv 0 σ H)
  (hs:∀i c σ H,x.cps[i]?=some c→Pv i σ H→g (.str ⟨#[c]⟩) σ H fun σ2 H2=>tb {D with nx:=Pv (i+1),ct:=Pv (i+1),bk:=D.nx} σ2 H2) (hd:∀σ H,Pv x.length σ H→D.nx σ H) :
  ∃W:Nat→Nat→St→Hp→Prop,(∃m,W 0 m σ H)∧∀i m σ H,W i m σ H→
   ((QN x).stop i H∧D.nx σ H)∨((QN x).go i H∧∃N:St→Hp→Prop,(∀σ' H',N σ' H'→∃m',m'<m∧W (i+1) m' σ' H')∧∀v H',(QN x).Jg i H v H'→g v σ H' fun σ2 H2=>tb {D with nx:=N,ct:=N,bk:=D.nx} σ2 H2):=by
 refine⟨fun i m σ H=>m=x.length-i∧i≤x.length∧Pv i σ H,⟨x.length,by simp,aaI _,h0⟩,?_⟩
 rintro i m σ H ⟨rfl,hi,p⟩
 by_cases kU:i<x.length
 ·refine .inr ⟨kU,Pv (i+1),fun σ' H' p'=>⟨x.length-(i+1),by omega,rfl,kU,p'⟩,fun v H' y=>?_⟩
  obtain⟨e,c,hc,rfl⟩:=y
  subst e
  exact hs i c σ _ hc p
 ·have e:i=x.length:=by omega
  subst e
  exact .inl ⟨rfl,hd σ H p⟩
def tFi(te:TE):TE:=fun σ H Q=>te σ H fun v H1=>∃i:Int,v=.int i∧i.natAbs.log2<1920∧Q (.str (toString i)) H1
theorem JM{e:Expr}{te:TE}{pos:Pos}(he:PE X e te):PE X (.FormattedValue e (-1) none pos) (tFi te):=by
 intro c_ s σ H Q I h
 refine FormattedValue_plain (i8 (he c_ s σ H _ I h) fun u s1 iM=>?_)
 obtain⟨v,H1,I1,r1,i,ev,hy,q⟩:=iM
 subst ev
 obtain⟨t',rfl⟩:=r1
 exact formatField_int_small hy ⟨.str (toString i),H1,I1.tok _,⟨_,rfl⟩,q⟩
end
section
variable{X:Cx}{tg:Expr}
noncomputable def JN(K:Qqy)(a:Addr)(n:Nat):It:=
 ⟨fun i H=>i<n∧∃xs,hE K H a xs∧xs.length=n,fun i H x H'=>H'=H∧∀xs,hE K H a xs→xs[n-1-i]?=some x,fun i _=>i=n⟩
theorem JO{P:Program}{w:World}{K:Qqy}(a it:Addr)(n:Nat):Turn P w K tg (JN K a n) [it] it (fun i h=>h.IsRevIter it a ((n:Int)-1-(i:Nat))) where
 mem:=by simp
 obj:=fun i h st b hb=>by
  have e:b=it:=by simpa using hb
  subst e
  obtain⟨o,e,c,d⟩:=st
  exact⟨o,e,fun v z=>by rw[d] at z;cases z⟩
 keep:=fun i h h' st k=>st.at fun o e=>k it (by simp) o e
 item:=by
  intro X hP hw hK hc i c_ s σ H E I hf st hg
  subst hP hw hK
  obtain⟨hi,xs,hq,hl⟩:=hg
  obtain⟨ib,rv,p,hz⟩:=I.list hq
  have hx:xs[n-1-i]?=some xs[n-1-i]:=Wd (by omega)
  obtain⟨u,hu,ru⟩:=rv.get hx
  obtain⟨f0,f1,f2,f3,f4,f5⟩:=hf it (by simp)
  have e1:(n:Int)-1-(i:Nat)=((n-1-i:Nat):Int):=by omega
  rw[e1] at st
  refine wpAny_pyNext_rev_item st p.isList (x:=u) (by simpa using hu) fun h' Bp sb=>?_
  have e2:((n-1-i:Nat):Int)-1=(n:Int)-1-((i+1:Nat):Int):=by omega
  rw[e2] at Bp
  have I1:Inv X c_ σ H {s with heap:=h'}:=I.turned (t':=s.toks) (fun b o hb e=>(sb.2 b hb).trans e) f0 f1 f3 f4 f5
  obtain⟨o,e,c,d⟩:=id Bp
  exact⟨u,rfl,zj (s:={s with heap:=h'}) e c d (by decide) ⟨_,H,I1,ru,⟨rfl,fun ys hy=>by rw[I.pK hy hq];exact hx⟩,Bp,fun b hb=>(hf b hb).1⟩⟩
 done:=by
  intro X hP hw hK hc i c_ s σ H E I hf st hg
  subst hP hw hK
  have hg:i=n:=hg
  subst hg
  obtain⟨f0,f1,f2,f3,f4,f5⟩:=hf it (by simp)
  have e1:(i:Int)-1-(i:Nat)=-1:=by omega
  rw[e1] at st
  exact wpAny_pyNext_rev_end (I.ok.hd hc) st fun h' eb=>⟨rfl,I.turned (t':=s.toks) (fun b o hb e=>eb b o hb e) f0 f1 f3 f4 f5⟩
 self:=fun _ _ _ _ _ st h=>wpAny_pyIter_revIter st h
def RW(K:Qqy)(ta:TA):TI:=fun σ H R=>ta σ H fun vs H1=>∃a xs,vs=[.ref a]∧hE K H1 a xs∧R (JN K a xs.length) H1
theorem L9{a:Expr}{ta:TA}{p pos:Pos}(hg:Gl X "reversed")(hm:X.mg "reversed"=none)(ha:PA X [a] ta)(hs:starEach [a] X.env=[(false,eval a X.env)]:=by rfl):PI X tg (.Call (.Name "reversed" p) [a] [] pos) (RW X.K ta):=by
 intro c_ s σ H R I h
 refine Call_ (pe I hg hm boot_reversed (aaW (i8 (ha pos c_ s σ H _ I h) fun us s1 iM=>?_) hs rfl))
 obtain⟨vs,H1,I1,r1,q1⟩:=iM
 obtain⟨l,xs,rfl,hq,q⟩:=q1
 obtain⟨u,rfl,ru⟩:=vals1 r1
 cases (show u=Value.ref l from ru)
 obtain⟨ib,rv,pp,hz⟩:=I1.list hq
 have hl:=rv.length
 refine call_reversed_list pp.isList ?_
 have I2:Inv X c_ σ H1 {s1 with heap:=s1.heap.push (revObj l ((ib.toArray.size:Int)-1))}:=I1.kept (t':=s1.toks) fun b o e=>aag _ e
 have st:(s1.heap.push (revObj l ((ib.toArray.size:Int)-1))).IsRevIter s1.heap.objs.size l ((xs.length:Int)-1-((0:Nat):Int)):=by
  have e1:(xs.length:Int)-1-((0:Nat):Int)=(ib.toArray.size:Int)-1:=by rw[hl];simp
  rw[e1]
  exact⟨_,aaC _ rfl,rfl,rfl⟩
 refine wpAny_pyIter_revIter st ?_
 refine⟨s1.heap.objs.size,[s1.heap.objs.size],_,_,H1,rfl,I2,JO l _ xs.length,st,fun b hb=>?_,q⟩
 have e:b=s1.heap.objs.size:=by simpa using hb
 subst e
 exact I1.zi (ZA _) (I1.iP.fresh (ZA _))
theorem L_{K:PySem.W.Frag}{a:Addr}{xs:List V}{g:TG}{tb:TS}{D:Ends}{σ:St}{H:Hp}(Pv:Nat→St→Hp→Prop)(h0:Pv 0 σ H)(hl:∀i σ H,i≤xs.length→Pv i σ H→hE K H a xs)
  (hs:∀i x σ H,xs.reverse[i]?=some x→Pv i σ H→g x σ H fun σ2 H2=>tb {D with nx:=Pv (i+1),ct:=Pv (i+1),bk:=D.nx} σ2 H2) (hd:∀σ H,Pv xs.length σ H→D.nx σ H) :
  ∃W:Nat→Nat→St→Hp→Prop,(∃m,W 0 m σ H)∧∀i m σ H,W i m σ H→
   ((JN K a xs.length).stop i H∧D.nx σ H)∨((JN K a xs.length).go i H∧∃N:St→Hp→Prop,(∀σ' H',N σ' H'→∃m',m'<m∧W (i+1) m' σ' H')∧∀x H',(JN K a xs.length).Jg i H x H'→g x σ H' fun σ2 H2=>tb {D with nx:=N,ct:=N,bk:=D.nx} σ2 H2):=by
 refine⟨fun i m σ H=>m=xs.length-i∧i≤xs.length∧Pv i σ H,⟨xs.length,by simp,aaI _,h0⟩,?_⟩
 rintro i m σ H ⟨rfl,hi,p⟩
 have q:=hl i σ H hi p
 by_cases kU:i<xs.length
 ·refine .inr ⟨⟨kU,xs,q,rfl⟩,Pv (i+1),fun σ' H' p'=>⟨xs.length-(i+1),by omega,rfl,kU,p'⟩,fun x H' y=>?_⟩
  obtain⟨e,y⟩:=y
  subst e
  refine hs i x σ _ ?_ p
  rw[List.getElem?_reverse kU]
  exact y xs q
 ·have e:i=xs.length:=by omega
  subst e
  exact .inl ⟨rfl,hd σ H p⟩
theorem JP{prog:Program}{w:World}{A:Around}{E:Qqq}{s:Shared}{r:Addr}{Q:Bool→Shared→Prop}(hT:s.TypeIs (.ref r) "list_reverseiterator")(h:Q false s):wpAny (model prog w) A (Builtin.List.listLengthHint (.ref r)) Q E s:=by
 have f1:typeLookup (.type "list_reverseiterator") "__len__"=pure none:=by rw[typeLookup_type,builtinLookup_eq_fast];kernel_rfl
 have f2:typeLookup (.type "list_reverseiterator") "__length_hint__"=pure (some (.builtin "list_reverseiterator.__length_hint__")):=by rw[typeLookup_type,builtinLookup_eq_fast];kernel_rfl
 unfold Builtin.List.listLengthHint
 refine V8 (ab_ hT f1 ?_)
 wp_delta
 refine aca (fun Ht=>absurd Ht (by decide)) (fun _=>?_)
 refine aca (fun Ht=>absurd Ht (by decide)) (fun _=>?_)
 refine V8 (ab_ hT f2 ?_)
 generalize LA:("list_reverseiterator.__length_hint__":String)=id0
 wp_delta
 rw[show splitId id0=some ("list_reverseiterator","__length_hint__") from by subst LA;decide+kernel]
 subst LA
 refine V8 (wpAny_isInstance (T:="list_reverseiterator") (b:=true) hT (by rw[isSubtype_type];kernel_rfl) ?_)
 refine aca (fun Ht=>absurd Ht (by decide)) (fun _=>?_)
 refine aca (fun _=>?_) (fun Ht=>absurd (by decide+kernel) Ht)
 refine aca (fun Ht=>absurd Ht (by decide)) (fun _=>?_)
 exact aao h
theorem HU{prog:Program}{w:World}{A:Around}{E:Qqq}{s:Shared}{T:String}{r d:Addr}{n:Nat}{P:Nat→Value→Prop}{St:Nat→Heap→Prop}{Q:Qqq}
  (W:Walks prog w A.in1.in1 r [r,d] [r] n P St) (hT:∀h:Heap,St 0 h→∃o,h.get? r=some o∧o.cls=.type T) (hl:(Value.type T ==Value.type "list")=false) (ht:(Value.type T ==Value.type "tuple")=false)
  (hint:∀(A:Around)(E:Qqq)(s:Shared)(Q:Bool→Shared→Prop),St 0 s.heap→Q false s→wpAny (model prog w) A (Builtin.List.listLengthHint (.ref r)) Q E s)
  (self:∀(A:Around)(E:Qqq)(s:Shared)(Q:Qqq),St 0 s.heap→Q (.ref r) s→wpAny (model prog w) A (pyIter (.ref r)) Q E s)
  (hd:d<s.heap.objs.size) (st:St 0 s.heap) (hn:n≤sizeLine)
  (hQ:∀h' tk M3 c',(∀b o,b≠r→s.heap.get? b=some o→h'.get? b=some o)→h'.get? s.heap.objs.size=some {cls:=.type "list",dict:=none,data:=.seq M3 c',slots:=#[]}→ItemsOf P M3 n→Q (.ref s.heap.objs.size) {s with heap:=h',toks:=tk}) :
  wpAny (model prog w) A (call (.type "list") [.ref r]) Q E s:=by
 obtain⟨or,hor,hcr⟩:=hT _ st
 have Fb:r<s.heap.objs.size:=aax hor
 refine callType_codes (Q₁:=fun obj s₁=>obj=.ref s.heap.objs.size∧s₁={s with heap:=s.heap.push {cls:=.type "list",data:=.seq #[]}}) PySem.F.called_list (PySem.F.typeCall_list_1 _) PySem.F.entry_list_init
  (code_list_new _ ⟨rfl,rfl⟩) fun obj s₁ h₁=>?_
 obtain⟨rfl,rfl⟩:=h₁
 have hS:(s.heap.push {cls:=.type "list",data:=.seq #[]}).get? s.heap.objs.size=some {cls:=.type "list",data:=.seq #[]}:=aaC _ rfl
 have WQ:s.heap.objs.size≠r:=Nat.ne_of_gt Fb
 have Z0:s.heap.objs.size≠d:=Nat.ne_of_gt hd
 refine⟨⟨_,hS,rfl⟩,PySem.F.args_list_init_2 _ _,?_⟩
 show wpAny _ _ (do let old ←Builtin.List.listItems (.ref s.heap.objs.size);Builtin.List.listUpdate (.ref s.heap.objs.size) (fun _=>#[]);letGo old.toList.reverse;Builtin.List.listExtendWith (.ref s.heap.objs.size) (.ref r) .none) _ _ _
 refine V8 ?_
 unfold Builtin.List.listItems
 refine V8 (wpAny_seqItems hS rfl (aao ?_))
 show wpAny _ _ (updateSeq s.heap.objs.size (fun _=>#[]) >>= fun _=>letGo (#[]:Array Value).toList.reverse >>= fun _=>Builtin.List.listExtendWith (.ref s.heap.objs.size) (.ref r) .none) _ _ _
 refine V8 (wpAny_updateSeq hS rfl ?_)
 have UU:=aa7 (Obj.mapSeq (fun _=>(#[]:Array Value))) hS rfl
 have QO:∀b o,s.heap.get? b=some o→((s.heap.push {cls:=.type "list",data:=.seq #[]}).update s.heap.objs.size (Obj.mapSeq (fun _=>(#[]:Array Value)))).get? b=some o:=
  fun b o e=>(abI _ _ (Nat.ne_of_gt (aax e))).trans (aag _ e)
 refine V8 (wpAny_letGo ?_)
 generalize (s.heap.push {cls:=.type "list",data:=.seq #[]}).update s.heap.objs.size (Obj.mapSeq (fun _=>(#[]:Array Value)))=h2 at UU QO
 have Bq:St 0 h2:=W.frame 0 _ _ st fun b _ o e=>QO b o e
 have key:∀(h:Heap)(c₁ tk:Nat),St 0 h→(∀b o,s.heap.get? b=some o→h.get? b=some o)→
   h.get? s.heap.objs.size=some {cls:=.type "list",data:=.seq #[] c₁}→codeAny (model prog w) A.in1 (.builtin "list.extend.loop" ⟨[.ref s.heap.objs.size,.ref r,.none],[]⟩)
    (fun r s'=>match r with|.ok (.ret v)=>v=.none∧Q (.ref s.heap.objs.size) s'|.ok _=>False|.error e=>E e s') {s with heap:=h,toks:=tk}:=by
  intro h c₁ tk lG hk hS₁
  refine codeAny_extend_loopS W.toS hn s.heap.objs.size (by simp only [W3,aaP,abQ,not_or];exact⟨WQ,Z0⟩) .none n 0 _ #[] c₁ rfl (aaI _) lG hS₁ (ItemsOf.nil _) fun s' M3 c' hm hS' AA=>?_
  rw[Moved.eq_with hm]
  refine⟨rfl,hQ s'.heap s'.toks M3 c' (fun b o hb e=>hm.heap b o (fun xp=>?_) (hk b o e)) hS' AA⟩
  rcases W3.mp xp with e'|xp
  ·exact absurd (aax e) (by rw[e'];exact abm _)
  ·exact hb (Tq.mp xp)
 unfold Builtin.List.listExtendWith
 refine V8 (wpAny_typeOf (T:=T) (hT _ Bq) ?_)
 have h1:Builtin.List.listSameRef (.ref s.heap.objs.size) (.ref r)=false:=by simp[Builtin.List.listSameRef,WQ]
 simp only [h1,hl,ht,Bool.or_false,aa1,ab5]
 refine V8 (self _ _ _ _ Bq ?_)
 refine V8 (abL (hint _ _ _ _ Bq ?_))
 refine aca (fun _=>?_) (fun _=>aao ⟨plainId_quiet PySem.F.plain_extend_loop _,key _ _ _ Bq QO UU⟩)
 refine V8 (wpAny_rule ?_)
 refine V8 ?_
 show wpAny _ _ (updateSeq s.heap.objs.size (·.push .none) >>= fun _=>updateSeq s.heap.objs.size (·.pop)) _ _ _
 refine V8 (wpAny_updateSeq UU rfl ?_)
 have Z1:=aa7 (Obj.mapSeq (·.push Value.none)) UU rfl
 refine wpAny_updateSeq (hz:=by seq_fits) Z1 rfl ?_
 have hS₄:=aa7 (Obj.mapSeq (·.pop)) Z1 rfl
 have Td:∀b o,b≠s.heap.objs.size→h2.get? b=some o→((h2.update s.heap.objs.size (Obj.mapSeq (·.push Value.none))).update s.heap.objs.size (Obj.mapSeq (·.pop))).get? b=some o:=fun b o hb e=>
  (abI _ _ (abJ hb)).trans ((abI _ _ (abJ hb)).trans e)
 refine aao ⟨plainId_quiet PySem.F.plain_extend_loop _,key _ _ _ (W.frame 0 _ _ Bq fun b hb o e=>Td b o (fun z=>?_) e) (fun b o e=>Td b o (aaT (aax e)) (QO b o e)) hS₄⟩
 subst z
 simp only [W3,aaP,abQ] at hb
 rcases hb with z|z
 ·exact WQ z
 ·exact Z0 z
def JQ(K:Qqy)(ta:TA):TE:=fun σ H Q=>ta σ H fun vs H1=>∃a xs,vs=[.ref a]∧hE K H1 a xs∧∀p,H1 p=none→Q (.ref p) (upd H1 p (.lst xs.reverse))
theorem FQ{a:Expr}{ta:TA}{p1 p2 WR M4:Pos}(hc:X.calm=true)(QW:Gl X "list")(WS:X.mg "list"=none)(hg:Gl X "reversed")(hm:X.mg "reversed"=none)(ha:PA X [a] ta)(hs:starEach [a] X.env=[(false,eval a X.env)]:=by rfl)
  (WT:starEach [.Call (.Name "reversed" p2) [a] [] M4] X.env=[(false,eval (.Call (.Name "reversed" p2) [a] [] M4) X.env)]:=by rfl):PE X (.Call (.Name "list" p1) [.Call (.Name "reversed" p2) [a] [] M4] [] WR) (JQ X.K ta):=by
 intro c_ s σ H Q I h
 refine Call_ (pe I QW WS boot_list (aaW ?_ WT rfl))
 rw[WT]
 refine abb ?_
 refine Call_ (pe I hg hm boot_reversed (aaW (i8 (ha M4 c_ s σ H _ I h) fun us s1 iM=>?_) hs rfl))
 obtain⟨vs,H1,I1,r1,q1⟩:=iM
 obtain⟨l,xs,rfl,hq,q⟩:=q1
 obtain⟨u,rfl,ru⟩:=vals1 r1
 cases (show u=Value.ref l from ru)
 obtain⟨ib,rv,pp,hz⟩:=I1.list hq
 have hl:=rv.length
 refine call_reversed_list pp.isList (abv ?_)
 have kU:l<s1.heap.objs.size:=let ⟨o,ho,_⟩:=pp.isList;aax ho
 have hL:(s1.heap.push (revObj l ((ib.toArray.size:Int)-1))).IsList l ib.toArray:=pp.isList.at fun o e=>aag _ e
 refine HU (s:={s1 with heap:=s1.heap.push (revObj l ((ib.toArray.size:Int)-1))}) (T:="list_reverseiterator") (d:=l) (n:=ib.toArray.size) (Walks.listRev (prog:=X.prog) (w:=X.w) (A:=X.A.in1.in1) (show X.A.in1.in1.handled=none from I.ok.hd hc) s1.heap.objs.size l (aaT kU) ib.toArray) (fun h ⟨_,⟨o,ho,Cf,_⟩,_⟩=>⟨o,ho,Cf⟩) (by decide) (by decide)
  (fun A E s Q ⟨_,⟨o,ho,Cf,_⟩,_⟩ hq=>JP ⟨o,ho,Cf⟩ hq) (fun A E s Q ⟨_,x,_⟩ hq=>wpAny_pyIter_revIter x hq) (aaE kU (by show s1.heap.objs.size≤(s1.heap.push _).objs.size;rw[Heap.size_push];exact Nat.le_succ _))
  ⟨aaI _,by
   have e:(ib.toArray.size:Int)-1-((0:Nat):Int)=(ib.toArray.size:Int)-1:=by omega
   rw[e];exact⟨_,aaC _ rfl,rfl,rfl⟩,hL⟩ (by rw[aai,←hl];exact hz) fun h' tk acc c hk hS AA=>?_
 have hf:H1 (s1.heap.push (revObj l ((ib.toArray.size:Int)-1))).objs.size=none:=I1.iP.fresh (by rw[Heap.size_push];omega)
 have rel:Vals xs.reverse acc.toList:=by
  have hsz:acc.toList.length=acc.size:=abh
  refine sX (by rw[abi,hsz,AA.1,aai,hl]) fun i x y hx hy=>?_
  have hi:i<xs.length:=by have:=(List.getElem?_eq_some_iff.mp hx).1;rwa [abi] at this
  have z:=AA.2 i y (by rw[←aa9];exact hy)
  rw[List.getElem?_reverse hi] at hx
  obtain⟨w,hw,Br⟩:=rv.get hx
  rw[aai,←hl] at z
  have z2:ib[xs.length-1-i]?=some y:=by simpa using z
  rw[hw] at z2
  cases z2
  exact Br
 refine⟨.ref _,upd H1 _ (.lst xs.reverse),I1.laid (t':=tk) (h':=h') (fun b o e=>hk b o (aaT (aax e)) (aag _ e)) (by rw[Heap.size_push];omega) ?_,rfl,q _ hf⟩
 exact⟨by rw[abi];exact hz,acc.toList,c,rel,by rw[Array.toArray_toList];exact hS⟩
end
open PySem PySem.Builtin.Str
theorem subAt_one(s:Str)(c i:Nat):subAt s ⟨#[c]⟩ i=decide (s.cps[i]?=some c):=by
 unfold subAt
 show(s.cps.extract i (i+1) ==#[c])=_
 rw[abG]
 simp only [ab2,abV]
 by_cases h:i<s.cps.size
 ·have e:s.cps.extract i (i+1)=#[s.cps[i]]:=by
   apply Array.ext
   ·simp;omega
   ·intro j h1 h2
    simp at h2
    subst h2
    simp
  rw[e,aaV h]
  constructor
  ·intro z;simpa using z
  ·intro z;simpa using z
 ·have e:s.cps.extract i (i+1)=#[]:=by
   apply Array.ext
   ·simp;omega
   ·intro j h1 h2;simp at h2
  rw[e,Array.getElem?_eq_none (by omega)]
  simp
noncomputable def oP(s sub:Str)(hi:Nat)(p:Array Nat×Nat)(i:Nat):Array Nat×Nat:=
 if(decide (p.1.size<1)&&decide (p.2≤i)&&decide (i+sub.length≤hi)&&subAt s sub i)=true then(p.1.push i,i+sub.length) else p
theorem JR(s sub:Str)(lo hi:Nat):occurrences s sub lo hi 1=((List.range' lo (hi+1-lo)).foldl (oP s sub hi) (#[],lo)).1.toList:=by
 unfold occurrences
 simp only [Std.Legacy.Range.forIn_eq_forIn_range',Std.Legacy.Range.size]
 rw[show(hi+1-lo+1-1)/1=hi+1-lo by omega]
 generalize List.range' lo (hi+1-lo)=l
 generalize ((#[],lo):Array Nat×Nat)=p
 show Id.run (forIn l p _ >>= _)=_
 have go:∀(l:List Nat)(p:Array Nat×Nat),(forIn l p (fun(i:Nat) (q:Array Nat×Nat)=>(if(decide (q.fst.size<1)&&decide (q.snd≤i)&&decide (i+sub.length≤hi)&&subAt s sub i)=true then
   pure (ForInStep.yield (q.fst.push i,i+sub.length)) else pure (ForInStep.yield (q.fst,q.snd)):Id (ForInStep (Array Nat×Nat)))):Id (Array Nat×Nat))=l.foldl (oP s sub hi) p:=by
  intro l
  induction l with
  | nil=>intro p;rfl
  | cons a r ih=>
   intro p
   rw[List.forIn_cons,List.foldl_cons]
   unfold oP
   split
   ·exact ih _
   ·exact ih _
 rw[go]
 rfl
theorem Ma(s:Str)(c:Nat):(occurrences s ⟨#[c]⟩ 0 s.length 1).isEmpty=decide (c∉s.cps.toList):=by
 rw[JR]
 have inv:∀(l:List Nat)(p:Array Nat×Nat),(p.1=#[]→p.2=0)→((l.foldl (oP s ⟨#[c]⟩ s.length) p).1=#[]↔p.1=#[]∧∀i∈l,¬(i+1≤s.length∧s.cps[i]?=some c)):=by
  intro l
  induction l with
  | nil=>intro p _;simp
  | cons a r ih=>
   intro p hp
   rw[List.foldl_cons]
   by_cases hc:(decide (p.1.size<1)&&decide (p.2≤a)&&decide (a+(⟨#[c]⟩:Str).length≤s.length)&&subAt s ⟨#[c]⟩ a)=true
   ·have e:oP s ⟨#[c]⟩ s.length p a=(p.1.push a,a+(⟨#[c]⟩:Str).length):=aap hc
    rw[e,ih _ (fun z=>by simp at z)]
    simp only [abp,abV,subAt_one] at hc
    constructor
    ·rintro⟨z,_⟩;simp at z
    ·rintro⟨z,h⟩
     exact absurd ⟨hc.1.2,hc.2⟩ (h a aat)
   ·have e:oP s ⟨#[c]⟩ s.length p a=p:=aak hc
    rw[e,ih _ hp]
    constructor
    ·rintro⟨z,h⟩
     refine⟨z,fun i hi=>?_⟩
     rcases W3.mp hi with rfl|hi
     ·intro ⟨h1,h2⟩
      apply hc
      simp only [abp,abV,subAt_one]
      exact⟨⟨⟨by rw[z];decide,by rw[hp z];exact aaI _⟩,h1⟩,h2⟩
     ·exact h i hi
    ·rintro⟨z,h⟩
     exact⟨z,fun i hi=>h i (aad _ hi)⟩
 have h:=inv (List.range' 0 (s.length+1-0)) (#[],0) (fun _=>rfl)
 rw[abG,abV,List.isEmpty_iff]
 rw[show(List.foldl (oP s ⟨#[c]⟩ s.length) (#[],0) (List.range' 0 (s.length+1-0))).1.toList=[]↔(List.foldl (oP s ⟨#[c]⟩ s.length) (#[],0) (List.range' 0 (s.length+1-0))).1=#[] from ⟨fun z=>by simpa using z,fun z=>by rw[z]⟩,h]
 constructor
 ·rintro⟨_,h⟩ hm
  obtain⟨i,hi,e⟩:=List.mem_iff_getElem.mp hm
  have Bt:i<s.cps.size:=by simpa using hi
  refine h i (by rw[List.mem_range'_1];show 0≤i∧i<0+(s.cps.size+1-0);omega) ⟨Bt,?_⟩
  rw[aaV Bt]
  simpa using e
 ·intro hn
  refine⟨rfl,fun i _ ⟨_,h2⟩=>hn ?_⟩
  exact V_ (i:=i) (by rw[aa9];exact h2)
section
variable{prog:Program}{w:World}{A:Around}{E:Qqq}{s:Shared}
end
section
variable{X:Cx}
end
def wN(h:Heap)(d:Addr)(es:Array DictEntry)(ep:Nat):Prop:=∃o,h.get? d=some o∧o.ExactDict∧o.data=.dict es ep
section
variable{P:Program}{w:World}{A:Around}{E:Qqq}{s:Shared}{d it:Addr}{es:Array DictEntry}{ep i:Nat}
theorem wN.ty(x:wN s.heap d es ep):s.TypeIs (.ref d) "dict":=by obtain⟨o,e,c,_⟩:=x;exact⟨o,e,c.1⟩
theorem wN.at{h h':Heap}(x:wN h d es ep)(k:∀o,h.get? d=some o→h'.get? d=some o):wN h' d es ep:=by obtain⟨o,e,r⟩:=x;exact⟨o,k o e,r⟩
theorem Ej{Q:Qqq}(lo:(d ==sysModules)=false)(x:wN s.heap d es ep)
  (k:Q (.ref s.heap.objs.size) {s with heap:=s.heap.push {cls:=.type "dict_keyiterator",data:=.fields #[.ref d,.int 0 0,.int es.size 0,.int ep 0]}}):wpAny (model P w) A (pyIter (.ref d)) Q E s:=by
 have ty:=x.ty
 obtain⟨o,e,c,dt⟩:=x
 refine wpAny_pyIter_slot ty F.slot_dict_iter (ab1 F.slot_dict_iter ty F.entry_dict_iter ?z (F.args_dict_iter_1 _))
 case z=>
  unfold Builtin.«dict.__iter__» Builtin.Dict.dictSlotNone
  refine V8 (V8 (wpAny_notOrdered_dict ty (show wpAny _ _ (pure (Value.ref d)) _ _ s from aao ?z)))
  case z=>
   show wpAny _ _ (Builtin.Dict.showsAll d >>= _) _ _ s
   unfold Builtin.Dict.showsAll
   rw[lo,aak (fun z=>by cases z)]
   refine V8 (aao (V8 (aa_ e dt (V8 (wpAny_dictEpoch e dt (V8 (wpAny_newObj_type (aao ?z))))))))
   case z=>exact⟨_,rfl,"dict_keyiterator",_,⟨_,aaC _ rfl,rfl⟩,abl.lookup,by simpa[rawInt] using k⟩
theorem Ek{Q:Option Value→Shared→Prop}{y:DictEntry}(x:s.heap.IsKeyIter it d i es.size ep)(r:wN s.heap d es ep)(hy:es[i]?=some y)
  (k:∀h',h'.IsKeyIter it d (i+1) es.size ep→Heap.SameBut it s.heap h'→Q (some y.key) {s with heap:=h'}):wpAny (model P w) A (pyNext (.ref it)) Q E s:=by
 have ty:=x.typeIs
 obtain⟨o,e,c,dt⟩:=id x
 obtain⟨o2,e2,c2,Te⟩:=r
 have P8:Builtin.Dict_items.ownsTuple "dict_keyiterator"=false:=by decide
 unfold pyNext
 refine V8 (wpAny_attempt (wpAny_callSpecial?_slot (name:=Str.ofString "__next__") ty abl (ab1 abl ty F.entry_dict_keyiterator_next ?z (F.args_dict_keyiterator_next_1 _))))
 case z=>
  refine V8 (aao (V8 (V8 ?z)))
  case z=>
   first|refine V8 (abB ty (aao (V8 (wpAny_fieldsOf e dt ?z))))|refine V8 (wpAny_typeNameOf_keyiter ty (aao (V8 (wpAny_fieldsOf e dt ?z))))
   case z=>
    simp only [P8,aa1,ab5]
    show wpAny _ _ (if(Value.ref d ==Value.none)=true then _ else _) _ _ s
    rw[aak (fun z=>by cases z)]
    refine V8 (aao (V8 (aa_ e2 Te ?z)))
    case z=>
     rw[aak (by simp)]
     refine V8 (aao (V8 (wpAny_dictEpoch e2 Te ?z)))
     case z=>
      rw[aak (by simp)]
      refine aao ?z
      case z=>
       simp only [show ¬((i:Int)<0) by omega,ab5,abT,hy]
       refine V8 ?z
       case z=>
        first|refine V8 (abB ty (aao (V8 (wpAny_isOneOf_keyiter ty ?z))))|refine V8 (wpAny_typeNameOf_keyiter ty (aao (V8 (wpAny_isOneOf_keyiter ty ?z))))
        case z=>
         show wpAny _ _ (setField (.ref it) 1 (rawInt ((i:Int)+1)) >>= _) _ _ s
         have n:(s.heap.update it (Obj.mapFields (·.setIfInBounds 1 (rawInt ((i:Int)+1))))).IsKeyIter it d (i+1) es.size ep:=
          ⟨_,aa7 _ e (Obj.isFreed_of_fields (Obj.data_mapFields dt _)),(Obj.cls_mapFields ..).trans c,by rw[Obj.data_mapFields dt];simp[rawInt]⟩
         refine V8 (wpAny_setField e dt (by simp) (V8 (abL (V8 (wpAny_isOneOf_keyiter (s:={s with heap:=s.heap.update it (Obj.mapFields (·.setIfInBounds 1 (rawInt ((i:Int)+1))))}) n.typeIs ?z)))))
         case z=>
          show wpAny _ _ (pure y.key) _ _ _
          exact aao (aao ⟨_,rfl,aao (k _ n (abj ..))⟩)
theorem El{Q:Option Value→Shared→Prop}(hh:A.handled=none)(x:s.heap.IsKeyIter it d i es.size ep)(r:wN s.heap d es ep)(hy:es.size≤i)
  (k:∀h',Heap.ExtBut it s.heap h'→Q none {s with heap:=h'}):wpAny (model P w) A (pyNext (.ref it)) Q E s:=by
 have ty:=x.typeIs
 obtain⟨o,e,c,dt⟩:=id x
 obtain⟨o2,e2,c2,Te⟩:=r
 have P8:Builtin.Dict_items.ownsTuple "dict_keyiterator"=false:=by decide
 unfold pyNext
 refine V8 (wpAny_attempt (wpAny_callSpecial?_slot (name:=Str.ofString "__next__") ty abl (ab1 abl ty F.entry_dict_keyiterator_next ?z (F.args_dict_keyiterator_next_1 _))))
 case z=>
  refine V8 (aao (V8 (V8 ?z)))
  case z=>
   first|refine V8 (abB ty (aao (V8 (wpAny_fieldsOf e dt ?z))))|refine V8 (wpAny_typeNameOf_keyiter ty (aao (V8 (wpAny_fieldsOf e dt ?z))))
   case z=>
    simp only [P8,aa1,ab5]
    show wpAny _ _ (if(Value.ref d ==Value.none)=true then _ else _) _ _ s
    rw[aak (fun z=>by cases z)]
    refine V8 (aao (V8 (aa_ e2 Te ?z)))
    case z=>
     rw[aak (by simp)]
     refine V8 (aao (V8 (wpAny_dictEpoch e2 Te ?z)))
     case z=>
      rw[aak (by simp)]
      refine aao ?z
      case z=>
       simp only [show ¬((i:Int)<0) by omega,ab5,abT,Array.getElem?_eq_none hy]
       refine V8 ?z
       case z=>
        first|refine V8 (abB ty (aao ?z))|refine V8 (wpAny_typeNameOf_keyiter ty (aao ?z))
        case z=>
         show wpAny _ _ (setField (.ref it) 0 .none >>= _) _ _ s
         refine V8 (wpAny_setField e dt (by simp) ?z)
         case z=>
          show wpAny _ _ (newExc (.type "StopIteration") [] >>= _) _ _ _
          refine V8 ?z
          case z=>
           simp only [newExc,newTuple]
           refine V8 (wpAny_newObj_type (V8 (m:=firstArgMember _ _) (wpAny_of_eq (a:=Value.none) (by first|rfl|(simp only [firstArgMember];rfl)) (wpAny_newObj_type ?z (by size_fits)))) (by size_fits))
           case z=>
            simp only [raiseNew]
            refine V8 (wpAny_handled ?z)
            case z=>
             rw[show A.in1.handled=none from hh]
             refine V8 (aao (wpAny_throw ?z))
             case z=>exact V8 (wpAny_isInstance (T:="StopIteration") (b:=true) ⟨_,aaC _ rfl,rfl⟩ isSubtype_stop <| aao (k _ (((abj ..).extBut.push _).push _)))
end
section
variable{X:Cx}{c_:Qqz}{σ:St}{H:Hp}{s:Shared}{tg:Expr}
noncomputable def HV(d:Addr)(o:Obj)(kvs:List (List Key×V)):It:=
 ⟨fun i H=>H d=some (.nA o (.dT kvs))∧i<kvs.length,fun i H x H'=>H'=H∧∃k v b,kvs[i]?=some (k,v)∧x=.ref b∧H b=some (.tup (k.map kV)),fun i H=>H d=some (.nA o (.dT kvs))∧kvs.length≤i⟩
theorem kt_at{kvs:List (List Key×V)}{xs:List (List Key×Addr×Value)}(r:KT H kvs xs):∀{i:Nat} {k:List Key} {b:Addr} {u:Value},xs[i]?=some (k,b,u)→∃v,kvs[i]?=some (k,v)∧H b=some (.tup (k.map kV))∧RelV v u:=by
 induction r with
 | nil=>intro i k b u e;simp at e
 | @cons p q ps qs f t ih=>
  intro i k b u e
  cases i with
  | zero=>
   simp at e
   subst e
   exact⟨p.2,aa4 some (Prod.ext f.1 rfl),by rw[←show p.1=k from f.1];exact f.2.1,f.2.2⟩
  | succ i=>
   obtain⟨v,h1,h2⟩:=ih (by simpa using e)
   exact⟨v,by simpa using h1,h2⟩
theorem zG{P:Program}{w:World}{h:Heap}{d:Addr}{kvs:List (List Key×V)}(q:i9 P w H h d (.dT kvs)):(d ==sysModules)=false∧kvs.length≤sizeLine∧∃(es:Array DictEntry)(ep:Nat),wN h d es ep∧es.size=kvs.length∧
  (∀(i:Nat)(y:DictEntry),es[i]?=some y→∃k v b,kvs[i]?=some (k,v)∧y.key=.ref b∧H b=some (.tup (k.map kV))∧RelV v y.val):=by
 obtain⟨hz,hs,xs,r,o,es,ep,ho,hc,hd,he,hn⟩:=q
 have sz:=acb he
 refine⟨hs,hz,es,ep,⟨o,ho,hc,hd⟩,by rw[sz];exact(aaq r).symm,fun i y hy=>?_⟩
 rw[entry_at he i] at hy
 obtain⟨⟨k,b,u⟩,hx,e⟩:=Option.map_eq_some_iff.mp hy
 obtain⟨v,h1,h2,h3⟩:=kt_at r hx
 subst e
 exact⟨k,v,b,h1,rfl,h2,h3⟩
theorem FR{P:Program}{w:World}{K:Qqy}(d it:Addr)(o:Obj)(es:Array DictEntry)(ep:Nat)(kvs:List (List Key×V))(Lb:o.data=.dict es ep)(hsz:es.size=kvs.length):Turn P w K tg (HV d o kvs) [it] it (fun i h=>h.IsKeyIter it d i es.size ep) where
 mem:=by simp
 obj:=fun i h st b hb=>by
  have e:b=it:=by simpa using hb
  subst e
  obtain⟨o,e,c,d⟩:=st
  exact⟨o,e,fun v z=>by rw[d] at z;cases z⟩
 keep:=fun i h h' st k=>st.at fun o e=>k it (by simp) o e
 item:=by
  intro X hP hw hK hc i c_ s σ H E I hf st hg
  subst hP hw hK
  obtain⟨hd,hi⟩:=hg
  obtain⟨ho,q⟩:=(show i9 X.prog X.w H s.heap d (.nA o (.dT kvs)) from I.iP d _ hd)
  obtain⟨_,_,QS,NJ,raw,sz,NP⟩:=zG q
  obtain⟨o',qJ,h2,h3⟩:=id raw
  rw[ho] at qJ;cases qJ
  rw[Lb] at h3;cases h3
  have Bt:i<es.size:=by omega
  obtain⟨k,v,b,e1,e2,e3,_⟩:=NP i es[i] (aaV Bt)
  obtain⟨f0,f1,f2,f3,f4,f5⟩:=hf it (by simp)
  refine Ek st raw (aaV Bt) fun h' Bp sb=>?_
  have I1:Inv X c_ σ H {s with heap:=h'}:=I.turned (t':=s.toks) (fun b o hb e=>(sb.2 b hb).trans e) f0 f1 f3 f4 f5
  obtain⟨o',e,c,dd⟩:=id Bp
  exact⟨_,rfl,zj (s:={s with heap:=h'}) e c dd (by decide) ⟨.ref b,H,I1,e2,⟨rfl,k,v,b,e1,rfl,e3⟩,Bp,fun b hb=>(hf b hb).1⟩⟩
 done:=by
  intro X hP hw hK hc i c_ s σ H E I hf st hg
  subst hP hw hK
  obtain⟨hd,hi⟩:=hg
  obtain⟨ho,q⟩:=(show i9 X.prog X.w H s.heap d (.nA o (.dT kvs)) from I.iP d _ hd)
  obtain⟨_,_,QS,NJ,raw,sz,NP⟩:=zG q
  obtain⟨o',qJ,h2,h3⟩:=id raw
  rw[ho] at qJ;cases qJ
  rw[Lb] at h3;cases h3
  obtain⟨f0,f1,f2,f3,f4,f5⟩:=hf it (by simp)
  exact El (I.ok.hd hc) st raw (by omega) fun h' eb=>⟨rfl,I.turned (t':=s.toks) (fun b o hb e=>eb b o hb e) f0 f1 f3 f4 f5⟩
 self:=fun _ _ _ _ _ st h=>wpAny_pyIter_keyiter st h
def OS(X:Cx)(td:TE):TI:=fun σ H R=>td σ H fun x H1=>∃d kvs,x=.ref d∧H1 d=some (.dT kvs)∧∀o,zF X d→R (HV d o kvs) (upd H1 d (.nA o (.dT kvs)))
theorem zH{l:Expr}{td:TE}(hl:PE X l td):PI X tg l (OS X td):=by
 intro c_ s σ H R I h
 refine i8 (hl c_ s σ H _ I h) fun v s1 iM=>?_
 obtain⟨x,H1,I1,r1,q1⟩:=iM
 obtain⟨d,kvs,e,hd,q⟩:=q1
 subst e
 cases r1
 have nf:=I1.OO hd True.intro
 obtain⟨o,ho,I2⟩:=I1.frozen hd True.intro
 obtain⟨hs,_,es,ep,raw,sz,_⟩:=zG (I1.iP d _ hd)
 obtain⟨o',qJ,h2,h3⟩:=id raw
 rw[ho] at qJ;cases qJ
 refine Ej hs raw ?_
 refine⟨s1.heap.objs.size,[s1.heap.objs.size],_,_,_,rfl,I2.kept (t':=s1.toks) fun b o e=>aag _ e,FR d _ o es ep kvs h3 sz,⟨_,aaC _ rfl,rfl,rfl⟩,fun b hb=>?_,q o nf⟩
 have e:b=s1.heap.objs.size:=by simpa using hb
 subst e
 exact I2.zi (ZA _) (I2.iP.fresh (ZA _))
theorem BN{d:Addr}{o:Obj}{kvs:List (List Key×V)}{g:TG}{tb:TS}{D:Ends}{σ:St}{H:Hp}(Pv:Nat→St→Hp→Prop)(h0:Pv 0 σ H)(hl:∀i σ H,Pv i σ H→H d=some (.nA o (.dT kvs)))
  (hs:∀i k v b σ H,kvs[i]?=some (k,v)→H b=some (.tup (k.map kV))→Pv i σ H→g (.ref b) σ H fun σ2 H2=>tb {D with nx:=Pv (i+1),ct:=Pv (i+1),bk:=D.nx} σ2 H2) (hd:∀σ H,Pv kvs.length σ H→D.nx σ H) :
  ∃W:Nat→Nat→St→Hp→Prop,(∃m,W 0 m σ H)∧∀i m σ H,W i m σ H→
   ((HV d o kvs).stop i H∧D.nx σ H)∨((HV d o kvs).go i H∧∃N:St→Hp→Prop,(∀σ' H',N σ' H'→∃m',m'<m∧W (i+1) m' σ' H')∧∀x H',(HV d o kvs).Jg i H x H'→g x σ H' fun σ2 H2=>tb {D with nx:=N,ct:=N,bk:=D.nx} σ2 H2):=by
 refine⟨fun i m σ H=>m=kvs.length-i∧i≤kvs.length∧Pv i σ H,⟨kvs.length,by simp,aaI _,h0⟩,?_⟩
 rintro i m σ H ⟨rfl,hi,p⟩
 have q:=hl i σ H p
 by_cases kU:i<kvs.length
 ·refine .inr ⟨⟨q,kU⟩,Pv (i+1),fun σ' H' p'=>⟨kvs.length-(i+1),by omega,rfl,kU,p'⟩,fun x H' y=>?_⟩
  obtain⟨e,k,v,b,y,rfl,hb⟩:=y
  subst e
  exact hs i k v b σ _ y hb p
 ·have e:i=kvs.length:=by omega
  subst e
  exact .inl ⟨⟨q,ZA _⟩,hd σ H p⟩
theorem JS{d:Addr}{o:Obj}{kvs:List (List Key×V)}{g:TG}{tt:TT}{te:TE}{Q:List V→Hp→Prop}{σ:St}{H:Hp}(hn:kvs.length≤sizeLine)(Pv:Nat→List V→St→Hp→Prop)(h0:Pv 0 [] σ H)(hl:∀i ys σ H,Pv i ys σ H→H d=some (.nA o (.dT kvs))∧ys.length≤i)
  (hs:∀i k v b ys σ H,kvs[i]?=some (k,v)→H b=some (.tup (k.map kV))→Pv i ys σ H→g (.ref b) σ H fun σ2 H2=>tt σ2 H2 fun c H3=>if c=true then te σ2 H3 fun v H4=>Pv (i+1) (ys++[v]) σ2 H4 else Pv (i+1) ys σ2 H3)
  (hd:∀ys σ H,Pv kvs.length ys σ H→Q ys H):HR g tt te (HV d o kvs) Q σ H:=by
 refine⟨fun i m ys σ H=>m=kvs.length-i∧i≤kvs.length∧Pv i ys σ H,⟨kvs.length,by simp,aaI _,h0⟩,?_⟩
 rintro i m ys σ H ⟨rfl,hi,p⟩
 obtain⟨q,hy⟩:=hl i ys σ H p
 by_cases kU:i<kvs.length
 ·refine .inr ⟨⟨q,kU⟩,by omega,Pv (i+1),fun QU σ' H' p'=>⟨kvs.length-(i+1),by omega,rfl,kU,p'⟩,fun x H' y=>?_⟩
  obtain⟨e,k,v,b,y,rfl,hb⟩:=y
  subst e
  exact hs i k v b ys σ _ y hb p
 ·have e:i=kvs.length:=by omega
  subst e
  exact .inl ⟨⟨q,ZA _⟩,by omega,hd ys σ H p⟩
end
section
variable{P:Program}{w:World}{d it:Addr}{es:Array DictEntry}{ep:Nat}
theorem HW{A:Around}(hh:A.handled=none)(oy:d≠it):Walks P w A it [it,d] [it] es.size (fun i v=>∃y,es[i]?=some y∧v=y.key) (fun i h=>h.IsKeyIter it d i es.size ep∧wN h d es ep) where
 sub:=fun b hb=>by rw[Tq.mp hb];exact aat
 frame:=fun i h h' ⟨a,b⟩ hk=>⟨a.at fun o e=>hk it aat o e,b.at fun o e=>hk d (by simp) o e⟩
 item:=fun i s Q E hi ⟨a,b⟩ hQ=>Ek a b (aaV hi) fun h' a' sb=>hQ _ h' s.toks ⟨_,aaV hi,rfl⟩ ⟨a',b.at fun o e=>sb.extBut d o oy e⟩ fun b o hb e=>sb.extBut b o (fun z=>hb (by rw[z];exact Tq.mpr rfl)) e
 done:=fun s Q E ⟨a,b⟩ hQ=>El hh a b (ZA _) fun h' eb=>hQ h' s.toks fun b o hb e=>eb b o (fun z=>hb (by rw[z];exact Tq.mpr rfl)) e
 self:=fun i s Q E ⟨a,_⟩ hQ=>wpAny_pyIter_keyiter a hQ
theorem Mb(lo:(d ==sysModules)=false):W.KdlSrc P w "dict" d d es.size (fun i v=>∃y,es[i]?=some y∧v=y.key) (fun h=>wN h d es ep) where
 type:=fun s r=>r.ty
 there:=fun h ⟨o,e,_⟩=>⟨aax e,aax e⟩
 keep:=fun h h' r hk=>r.at fun o e=>hk d (.inl rfl) o e
 notList:=by decide
 notTuple:=by decide
 hint:=fun A E s Q r hq=>W.kdl_hint_dict r.ty hq
 iter:=fun A s hh r=>⟨_,_,(fun E Q hq=>Ej lo r hq),HW hh (by obtain⟨o,e,_⟩:=r;exact aaT (aax e)),⟨⟨_,aaC _ rfl,rfl,rfl⟩,r.at fun o e=>aag _ e⟩⟩
end
section
variable{X:Cx}{c_:Qqz}{σ:St}{H:Hp}{s:Shared}
theorem yI(hc:X.calm=true):xC X (.type "list") (fun xs H Q=>∃d kvs,xs=[V.ref d]∧H d=some (.dT kvs)∧∀p bs,H p=none→Paired (fun(kv:List Key×V) (b:Addr)=>H b=some (.tup (kv.1.map kV))) kvs bs→Q (.ref p) (upd H p (.lst (bs.map V.ref)))):=by
 intro c_ s σ H xs us Q I r h
 obtain⟨d,kvs,rfl,hd,q⟩:=h
 obtain⟨u,rfl,ru⟩:=vals1 r
 cases (show u=Value.ref d from ru)
 obtain⟨hs,hz,es,ep,raw,sz,NP⟩:=zG (I.iP d _ hd)
 refine W.kdl_call (Mb hs) (I.ok.hd hc) raw (by omega) fun h' tk acc c hk hS AA=>?_
 have hf:H s.heap.objs.size=none:=I.iP.fresh (ZA _)
 have hb:∀i:Nat,i<kvs.length→∃k v b,kvs[i]?=some (k,v)∧(es[i]?.map DictEntry.key)=some (Value.ref b)∧H b=some (.tup (k.map kV)):=fun i hi=>by
  have Bt:i<es.size:=by omega
  obtain⟨k,v,b,e1,e2,e3,_⟩:=NP i es[i] (aaV Bt)
  exact⟨k,v,b,e1,by rw[aaV Bt,ab8,e2],e3⟩
 let adr:Value→Addr:=fun v=>match v with|.ref b=>b|_=>0
 let bs:List Addr:=es.toList.map fun y=>adr y.key
 have NQ:bs.length=kvs.length:=by show(es.toList.map _).length=_;rw[Tj,abh];exact sz
 have Z2:∀(i:Nat)(b:Addr),bs[i]?=some b→∃k v,kvs[i]?=some (k,v)∧es[i]?.map DictEntry.key=some (Value.ref b)∧H b=some (.tup (k.map kV)):=fun i b e=>by
  have hi:i<kvs.length:=by rw[←NQ];exact(List.getElem?_eq_some_iff.mp e).1
  obtain⟨k,v,b',e1,e2,e3⟩:=hb i hi
  have:bs[i]?=some b':=by
   show(es.toList.map _)[i]?=_
   rw[aam,aa9]
   obtain⟨y,ey,e4⟩:=Option.map_eq_some_iff.mp e2
   rw[ey]
   show some (adr y.key)=_
   rw[e4]
  rw[this] at e
  cases e
  exact⟨k,v,e1,e2,e3⟩
 have rel:Vals (bs.map V.ref) acc.toList:=by
  refine sX (by have e1:=AA.1;have e2:acc.toList.length=acc.size:=abh;rw[Tj,NQ];omega) fun i a b ha hb=>?_
  rw[aam] at ha
  obtain⟨b',e,rfl⟩:=Option.map_eq_some_iff.mp ha
  obtain⟨k,v,_,e2,_⟩:=Z2 i b' e
  obtain⟨y,hy,hv⟩:=AA.2 i b (by rw[←aa9];exact hb)
  rw[hy,ab8] at e2
  show b=.ref b'
  rw[hv,aau e2]
 refine⟨.ref s.heap.objs.size,upd H s.heap.objs.size (.lst (bs.map V.ref)),I.laid (t':=tk) hk (ZA _) ?_,rfl,q _ bs hf (sX NQ.symm fun i a b ha hb=>?_)⟩
 ·exact⟨by rw[Tj,NQ];exact hz,acc.toList,c,rel,by rw[Array.toArray_toList];exact hS⟩
 ·obtain⟨k,v,e1,_,e3⟩:=Z2 i b hb
  rw[e1] at ha
  cases ha
  exact e3
end
section
variable{P:Program}{w:World}{κ:Type}[DecidableEq κ]{knd:HeapKind P w κ}{A:Around}{E:Qqq}{s:Shared}{d a:Addr}{xs:List (κ×Addr×Value)}{k:κ}
theorem JT{v:Value}{Q:Unit→Shared→Prop}(hu:knd.room A)(hk:knd.is s.heap k a)(m:s.heap.DictOfH knd d xs)(hz:xs.length≤sizeLine)
  (q:∀h',h'.DictOfH knd d (storedH xs k a v)→Heap.SameBut d s.heap h'→Q () {s with heap:=h'}):wpAny (model P w) A (dictSetHashed d (.ref a) (knd.hash k) v) Q E s:=by
 obtain⟨o,es,ep,ho,hc,hd,he,QX,hn⟩:=m
 have sz:=acb he
 unfold dictSetHashed
 try with_reducible refine abL ?_
 refine V8 (wpAny_dictFind_heap hu hk ho hd he QX hn (fun no=>?_) fun j p hj=>?_)
 ·have at0:=atKey_none_of_get no
  refine V8 (wpAny_rule (wpAny_updateDictKeys (hz:=by omega) ho hd (q _ ?_ (abj ..))))
  rw[storedH_new at0]
  refine⟨_,_,ep+1,aa7 _ ho (Obj.isFreed_of_dict (Obj.data_mapDictKeys hd _)),hc.mapDictKeys _,Obj.data_mapDictKeys hd _,by simp[he,entryOfKey],fun x hx=>?_,?_⟩
  ·refine knd.keeps ?_ ho hd (abj ..)
   rcases W9.mp hx with hx|hx
   ·exact QX x hx
   ·rw[Tq.mp hx];exact hk
  ·rw[aar,aa0]
   exact⟨hn,by simp,fun x hx y hy z=>not_mem_keys_of_get no (by rw[Tq.mp hy] at z;have z:x=k:=z;exact z▸hx)⟩
 ·have at1:=atKey_of_get hn hj
  refine V8 (wpAny_rule (V8 (wpAny_updateDict ho hd (wpAny_point (q _ ?_ (abj ..))))))
  rw[storedH_old at1]
  refine⟨_,_,ep,aa7 _ ho (Obj.isFreed_of_dict (Obj.data_mapDict hd _)),hc.mapDict _,Obj.data_mapDict hd _,?_,fun x hx=>?_,by rw[keys_map_putAt];exact hn⟩
  ·have z:=modify_map_putAt (entryOfKey knd) (fun e:DictEntry=>{e with val:=v}) k v (fun _ _=>rfl) hn hj
   rw[←he] at z
   obtain⟨l⟩:=es
   simpa using z
  ·obtain⟨y,hy,rfl⟩:=List.mem_map.mp hx
   unfold putAt
   split<;>exact knd.keeps (QX y hy) ho hd (abj ..)
noncomputable def Em(xs:List (κ×Addr×Value))(k:κ):List (κ×Addr×Value):=xs.filter fun x=>decide (x.1≠k)
theorem FT{β:Type}(f:κ×Addr×Value→β):∀{xs:List (κ×Addr×Value)} {j:Nat} {p:Addr×Value},(xs.map (·.1)).Nodup→xs[j]?=some (k,p)→(xs.map f).eraseIdx j=(Em xs k).map f:=by
 intro xs
 induction xs with
 | nil=>intro j p _ hj;simp at hj
 | cons x r ih=>
  intro j p hn hj
  rw[aav,aaL] at hn
  unfold Em
  cases j with
  | zero=>
   simp at hj
   have e:r.filter (fun x=>decide (x.1≠k))=r:=List.filter_eq_self.mpr fun y hy=>ZF fun z=>hn.1 (by rw[hj];show k∈_;rw[←z];exact Wc hy)
   rw[aaj (by rw[hj];simp),e]
   rfl
  | succ j=>
   have hj:r[j]?=some (k,p):=by simpa using hj
   have ne:x.1≠k:=fun z=>hn.1 (by rw[z];exact List.mem_map.mpr ⟨_,V_ hj,rfl⟩)
   rw[aab (by simpa using ne),aav,aav,List.eraseIdx_cons_succ,ih hn.2 hj]
   rfl
theorem JU{p:Addr×Value}{Q:Option DictEntry→Shared→Prop}(hu:knd.room A)(hk:knd.is s.heap k a)(m:s.heap.DictOfH knd d xs)(hz:xs.length≤sizeLine)(hp:atKey xs k=some p)
  (q:∀h',h'.DictOfH knd d (Em xs k)→Heap.SameBut d s.heap h'→Q (some ⟨knd.hash k,.ref p.1,p.2⟩) {s with heap:=h',toks:=s.toks+knd.draws k}):wpAny (model P w) A (Builtin.Dict.takeOut d (.ref a)) Q E s:=by
 obtain⟨o,es,ep,ho,hc,hd,he,QX,hn⟩:=m
 have sz:=acb he
 unfold Builtin.Dict.takeOut
 try with_reducible refine abL ?_
 refine V8 (knd.pyHash hu hk (V8 (wpAny_dictFind_heap (s:={s with toks:=s.toks+knd.draws k}) hu hk ho hd he QX hn (fun no=>?_) fun j p' hj=>?_)))
 ·rw[atKey_none_of_get no] at hp;cases hp
 ·have e:=atKey_of_get hn hj
  rw[hp] at e
  cases e
  refine V8 (aa_ (s:={s with toks:=s.toks+knd.draws k}) ho hd ?_)
  rw[entry_at he j,hj]
  refine V8 (wpAny_updateDictKeys (hz:=by omega) (s:={s with toks:=s.toks+knd.draws k}) ho hd (aao (q _ ?_ (abj ..))))
  refine⟨_,_,ep+1,aa7 _ ho (Obj.isFreed_of_dict (Obj.data_mapDictKeys hd _)),hc.mapDictKeys _,Obj.data_mapDictKeys hd _,?_,fun x hx=>knd.keeps (QX x (ZH.mp hx).1) ho hd (abj ..),(aaS.map _).nodup hn⟩
  have z:=FT (k:=k) (entryOfKey knd) hn hj
  rw[←he] at z
  rw[←z]
  obtain⟨l⟩:=es
  simp
noncomputable def kP(xs more:List (κ×Addr×Value)):List (κ×Addr×Value):=more.foldl (fun acc x=>storedH acc x.1 x.2.1 x.2.2) xs
theorem En{xs more:List (κ×Addr×Value)}{i:Nat}{x:κ×Addr×Value}(h:more[i]?=some x):kP xs (more.take (i+1))=storedH (kP xs (more.take i)) x.1 x.2.1 x.2.2:=by
 unfold kP
 rw[List.take_add_one,h,List.foldl_append]
 rfl
theorem Eo(xs:List (κ×Addr×Value))(k:κ)(a:Addr)(v:Value):(storedH xs k a v).length≤xs.length+1:=by
 unfold storedH
 split
 ·rw[Tj];omega
 ·rw[ZD];exact ZA _
theorem FU(xs:List (κ×Addr×Value)):∀more:List (κ×Addr×Value),(kP xs more).length≤xs.length+more.length:=by
 intro more
 unfold kP
 induction more generalizing xs with
 | nil=>exact ZA _
 | cons x r ih=>
  have h1:=ih (storedH xs x.1 x.2.1 x.2.2)
  have h2:=Eo xs x.1 x.2.1 x.2.2
  rw[List.foldl_cons,aae]
  omega
theorem FV{nm:String}{o:Addr}{more:List (κ×Addr×Value)}{Q:Unit→Shared→Prop}(hu:knd.room A)(ne:d≠o)(lo:(o ==sysModules)=false)(oy:xs≠[])(md:s.heap.DictOfH knd d xs)(mo:s.heap.DictOfH knd o more)(hz:xs.length+more.length≤sizeLine)
  (q:∀h',h'.DictOfH knd d (kP xs more)→Heap.SameBut d s.heap h'→Q () {s with heap:=h'}):wpAny (model P w) A (Builtin.Dict.mergeDict nm d o) Q E s:=by
 obtain⟨od,UW,epd,UX,Cg,QY,P9,LA,P_⟩:=id md
 obtain⟨oo,IK,epo,UY,hco,Lb,K6,hio,hno⟩:=id mo
 have szo:=acb K6
 have Z3:=acb P9
 unfold Builtin.Dict.mergeDict Builtin.Dict.showsAll
 rw[aak (by simpa using ne),lo,aak (fun z=>by cases z)]
 refine V8 (aao (V8 (aa_ UY Lb ?_)))
 dsimp only
 have loop:wpAny (model P w) A (do
   let Tf ←dictEpoch o
   let l ←dictEntries o
   forIn [:l.size] PUnit.unit fun i (_:PUnit)=>(do
     let l' ←dictEntries o
     match l'[i]? with
      | some e=>do
       holding [e.key,e.val] (dictSetHashed d e.key e.hash e.val)
       let NJ ←dictEpoch o
       if(NJ != Tf)=true then do (unsupported (toString nm++toString ":source-changed-during-callback"):Sem PUnit);pure (ForInStep.yield PUnit.unit)
        else pure (ForInStep.yield PUnit.unit)
      | _=>do (unsupported "internal:dict-merge":Sem PUnit);pure (ForInStep.yield PUnit.unit):Sem (ForInStep PUnit))
   pure ()) Q E s:=by
  refine V8 (wpAny_dictEpoch UY Lb (V8 (aa_ UY Lb (V8 ?_))))
  rw[Std.Legacy.Range.forIn_eq_forIn_range']
  simp only [Std.Legacy.Range.size,Nat.sub_zero,Nat.add_sub_cancel,Nat.div_one]
  refine wpAny_forIn_list _ (fun rest _ s'=>∃h' i,s'={s with heap:=h'}∧rest=List.range' i (IK.size-i)∧i≤IK.size∧h'.DictOfH knd d (kP xs (more.take i))∧Heap.SameBut d s.heap h') _ ?_ ?_ _ _ ⟨s.heap,0,rfl,by simp,aaI _,by simpa[kP] using md,Heap.SameBut.refl _ _⟩
  ·rintro x rest b s' ⟨h',i,rfl,hr,hi,hm,hs⟩
   have kU:i<IK.size:=by
    rcases Nat.lt_or_ge i IK.size with z|z
    ·exact z
    ·rw[Nat.sub_eq_zero_of_le z] at hr;simp at hr
   obtain⟨ex,er⟩:x=i∧rest=List.range' (i+1) (IK.size-(i+1)):=by
    rw[show IK.size-i=(IK.size-(i+1))+1 by omega,acg] at hr
    exact List.cons.inj hr
   subst ex
   have Tg:h'.get? o=some oo:=(hs.2 o (abJ ne)).trans UY
   refine V8 (aa_ Tg Lb ?_)
   obtain⟨⟨k,b2,v⟩,hx⟩:∃y,more[x]?=some y:=⟨more[x]'(by omega),Wd _⟩
   rw[entry_at K6 x,hx]
   show wpAny _ _ (holding [Value.ref b2,v] (dictSetHashed d (.ref b2) (knd.hash k) v) >>= _) _ _ _
   have hl:(kP xs (more.take x)).length≤sizeLine:=by
    have:=FU xs (more.take x)
    rw[aaD] at this
    omega
   have hib:knd.is h' k b2:=knd.keeps (hio _ (V_ hx)) UX QY hs
   refine V8 (abL (JT (s:={s with heap:=h'}) hu hib hm hl fun h2 m2 s2=>?_))
   refine V8 (wpAny_dictEpoch ((s2.2 o (abJ ne)).trans Tg) Lb ?_)
   rw[aak (by simp)]
   exact aao ⟨h2,x+1,rfl,er,kU,by rw[En hx];exact m2,hs.trans s2⟩
  ·rintro b s' ⟨h',i,rfl,hr,hi,hm,hs⟩
   have e:i=IK.size:=by
    rcases Nat.lt_or_ge i IK.size with z|z
    ·rw[show IK.size-i=(IK.size-(i+1))+1 by omega,acg] at hr;cases hr
    ·omega
   refine aao (q h' ?_ hs)
   rw[e,szo,aas] at hm
   exact hm
 split
 ·refine V8 (aa_ UX QY ?_)
  rw[aak (fun z=>?_)]
  ·exact loop
  ·have:UW=#[]:=Array.isEmpty_iff.mp z
   rw[this] at Z3
   exact oy (aaK.mp Z3.symm)
 ·exact loop
theorem JV{o:Addr}{more:List (κ×Addr×Value)}{Q:Qqq}(hu:knd.room A.in1)(ne:d≠o)(lo:(o ==sysModules)=false)(oy:xs≠[])(md:s.heap.DictOfH knd d xs)(mo:s.heap.DictOfH knd o more)(hz:xs.length+more.length≤sizeLine)
  (q:∀h',h'.DictOfH knd d (kP xs more)→Heap.SameBut d s.heap h'→Q .none {s with heap:=h'}):wpAny (model P w) A (call (.builtin "dict.update") [.ref d,.ref o]) Q E s:=by
 refine ab1 abW md.typeIs PySem.F.entry_dict_update ?_ (PySem.F.args_dict_update_2 _ _)
 unfold Builtin.«dict.update» Builtin.Dict.selfAndRest
 refine V8 (V8 (wpAny_notOrdered_dict md.typeIs (show wpAny _ _ (pure (d,[Value.ref o])) _ _ s from aao ?_)))
 show wpAny _ _ (Builtin.Dict.updateFrom "dict.update" d (.ref o) [] .none) _ _ s
 unfold Builtin.Dict.updateFrom
 refine V8 (wpAny_typeOf mo.typeIs ?_)
 rw[aak (by decide)]
 unfold Builtin.Dict.merge Builtin.Dict.readDirectly
 refine V8 (V8 (V8 (wpAny_isInstance mo.typeIs isSubtype_dict_dict ?_)))
 simp only [Bool.not_true,aa1,ab5]
 refine V8 (ab_ mo.typeIs F.slot_dict_iter.lookup (aao ?_))
 simp only [beq_self_eq_true,if_true]
 refine V8 (aao (FV hu ne lo oy md mo hz fun h' m s'=>?_))
 show wpAny _ _ (Builtin.Dict.addKeywords d [] >>= _) _ _ _
 exact V8 (aao (aao ⟨.none,rfl,q h' m s'⟩))
end
noncomputable def putAll{κ:Type}[DecidableEq κ](kvs more:List (κ×V)):List (κ×V):=more.foldl (fun acc kv=>putK acc kv.1 kv.2) kvs
section
variable{κ:Type}[DecidableEq κ]
theorem rG(kvs:List (κ×V))(p:κ×V)(r:List (κ×V)):putAll kvs (p::r)=putAll (putK kvs p.1 p.2) r:=rfl
theorem qk:∀(more kvs:List (κ×V)),(putAll kvs more).length≤kvs.length+more.length
 | [],kvs=>ZA _
 | p::r,kvs=>by
  have h1:=qk r (putK kvs p.1 p.2)
  have h2:=jq kvs p.1 p.2
  rw[rG,aae]
  omega
theorem kt_merged{H:Hp}{more:List (List Key×V)}{ys:List (List Key×Addr×Value)}(r:KT H more ys):∀{kvs:List (List Key×V)} {xs:List (List Key×Addr×Value)},KT H kvs xs→KT H (putAll kvs more) (kP xs ys):=by
 induction r with
 | nil=>intro kvs xs r;exact r
 | @cons p q ps qs f t ih=>
  intro kvs xs r
  have z:=r.put p.1 (b:=q.2.1) f.2.1 f.2.2
  have z2:=ih z
  rw[show kP xs (q::qs)=kP (storedH xs q.1 q.2.1 q.2.2) qs from rfl,←show p.1=q.1 from f.1]
  exact z2
theorem HX{more:List (κ×V)}{ys:List (κ×Value)}(r:KV more ys):∀{kvs:List (κ×V)} {xs:List (κ×Value)},KV kvs xs→KV (putAll kvs more) (merged xs ys):=by
 induction r with
 | nil=>intro kvs xs r;exact r
 | @cons p q ps qs f t ih=>
  intro kvs xs r
  have z:=ih (KV.put r p.1 f.2)
  rw[show merged xs (q::qs)=merged (stored xs q.1 q.2) qs from rfl,←show p.1=q.1 from f.1]
  exact z
end
section
variable{X:Cx}{c_:Qqz}{σ:St}{H:Hp}{s:Shared}{a b:Addr}{A:Around}{E:Qqq}
theorem Mc{kvs:List (List Key×V)}{xs:List (List Key×Addr×Value)}(r:KT H kvs xs)(k:List Key):KT H (jT kvs k) (Em xs k):=by
 induction r with
 | nil=>exact .nil
 | @cons p q ps qs f t ih=>
  unfold jT Em
  by_cases e:p.1=k
  ·have e':q.1=k:=f.1.symm.trans e
   rw[aaj (by simp[e]),aaj (by simp[e'])]
   exact ih
  ·have e':¬q.1=k:=fun z=>e (f.1.trans z)
   rw[aab (by simp[e]),aab (by simp[e'])]
   exact .cons f ih
theorem OT{kvs more:List (List Key×V)}{Q:Qqq}(hu:A.units+1<cLine)(I:Inv X c_ σ H s)(ha:H a=some (.dT kvs))(hb:Rd H b (.dT more))(ne:a≠b)(h0:kvs≠[])(hz:kvs.length+more.length≤sizeLine)
  (h:∀s',Inv X c_ σ (upd H a (.dT (putAll kvs more))) s'→Q .none s'):wpAny (model X.prog X.w) A (call (.builtin "dict.update") [.ref a,.ref b]) Q E s:=by
 obtain⟨z,lo,xs,rel,dd⟩:=Jp I.iP ha
 obtain⟨z2,WU,ys,Lc,WV⟩:=xH I.iP hb
 have l1:=aaq rel
 have l2:=aaq Lc
 have x0:xs≠[]:=fun e=>h0 (aaK.mp (by rw[l1,e];rfl))
 refine JV (abz hu) ne WU x0 dd WV (by omega) fun h' m hs=>h _ ?_
 obtain⟨q,es,ep,hq,h2,h3,h4,_,h5⟩:=m
 refine sW (t':=s.toks) I (by rw[ha];exact True.intro) hs ⟨q,hq⟩ ⟨aac (qk _ _) hz,lo,_,(kt_merged Lc rel).keeps fun c ys ec=>?_,q,es,ep,hq,h2,h3,h4,h5⟩
 rw[e_ (iX ec ha (fun z=>nomatch z))]
 exact ec
theorem OU{kvs more:List (Key×V)}{Q:Qqq}(I:Inv X c_ σ H s)(ha:H a=some (.dK kvs))(hb:Rd H b (.dK more))(ne:a≠b)(hz:kvs.length+more.length≤sizeLine)
  (h:∀s',Inv X c_ σ (upd H a (.dK (putAll kvs more))) s'→Q .none s'):wpAny (model X.prog X.w) A (call (.builtin "dict.update") [.ref a,.ref b]) Q E s:=by
 obtain⟨z,lo,xs,rel,dd⟩:=Jo I.iP ha
 obtain⟨z2,WU,ys,Lc,WV⟩:=xG I.iP hb
 have l1:=rel.length
 have l2:=Lc.length
 refine call_meetsIn abW dd.typeIs PySem.F.entry_dict_update (PySem.F.args_dict_update_2 _ _) (meets_dict_update (jf X.prog X.w) a b ne WU) ⟨xs,ys,dd,WV,by omega,fun h' LD _ hs=>h _ ?_⟩
 have he:∃q,h'.get? a=some q:=let ⟨q,_,_,hq,_⟩:=LD;⟨q,hq⟩
 exact sW (t':=s.toks) I (by rw[ha];exact True.intro) hs he (FL (aac (qk _ _) hz) lo (HX Lc rel) LD)
theorem OV{kvs:List (List Key×V)}{k:List Key}{v:V}{Q:Qqq}(hu:A.units+1<cLine)(I:Inv X c_ σ H s)(ha:H a=some (.dT kvs))(hb:H b=some (.tup (k.map kV)))(l:iR kvs k=some v)
  (h:∀w' s',Inv X c_ σ (upd H a (.dT (jT kvs k))) s'→RelV v w'→Q w' s'):wpAny (model X.prog X.w) A (call (.builtin "dict.pop") [.ref a,.ref b]) Q E s:=by
 obtain⟨z,lo,xs,rel,dd⟩:=Jp I.iP ha
 have l1:=aaq rel
 obtain⟨w',hw,Br⟩:=pI.some_of (v:=v) (o:=(atKey xs k).map (·.2)) (by rw[←l];exact rel.val k)
 obtain⟨p,hp,zf⟩:=Option.map_eq_some_iff.mp hw
 obtain⟨od,UW,epd,UX,Cg,QY,P9,LA,P_⟩:=id dd
 refine ab1 ab9 dd.typeIs PySem.F.entry_dict_pop ?_ (PySem.F.args_dict_pop_2 _ _)
 unfold Builtin.«dict.pop» Builtin.Dict.keyAndDefault
 refine V8 (V8 (wpAny_notOrdered_dict dd.typeIs (show wpAny _ _ (pure (a,Value.ref b,none)) _ _ s from aao ?_)))
 have part:(keyPart (Value.ref b)).isSome=false:=rfl
 simp only [part,aa1,ab5]
 refine V8 (aa_ UX QY (V8 (aao ?_)))
 have ne:UW.isEmpty=false:=by
  rw[abE]
  intro e
  have e:UW=#[]:=Array.isEmpty_iff.mp e
  have sz:=acb P9
  rw[e] at sz
  have:xs=[]:=aaK.mp sz.symm
  rw[this] at hp
  cases hp
 simp only [ne,aa1,ab5]
 refine V8 (JU (abz hu) (um I.iP hb) dd (by omega) hp fun h' m hs=>?_)
 simp only [Option.isNone_some,aa1,ab5]
 refine V8 (wpAny_letGo (aao ⟨p.2,rfl,?_⟩))
 rw[zf]
 refine h w' _ ?_ Br
 obtain⟨q,es,ep,hq,h2,h3,h4,_,h5⟩:=m
 refine sW I (by rw[ha];exact True.intro) hs ⟨q,hq⟩ ⟨aac (Ef _ _) z,lo,_,(Mc rel k).keeps fun c ys ec=>?_,q,es,ep,hq,h2,h3,h4,h5⟩
 rw[e_ (iX ec ha (fun z=>nomatch z))]
 exact ec
theorem Md{d:Addr}{es:Array DictEntry}{ep:Nat}{Q:Qqq}{P:Program}{w:World}(lo:(d ==sysModules)=false)(r:wN s.heap d es ep)(fit:(es.size:Int)<2 ^ 63)
  (h:Q (.int es.size (s.toks+1)) {s with toks:=s.toks+1+1}):wpAny (model P w) A (Builtin.«len» ⟨[.ref d],[]⟩) (fun fin s'=>∃r,fin=.done (.ret r)∧Q r s') E s:=by
 obtain⟨o,ho,hc,hd⟩:=id r
 unfold Builtin.«len»
 refine V8 (m:=oneArg "len" _) (aao (V8 (m:=callSpecial? (.ref d) (Str.ofString "__len__")) (wpAny_callSpecial?_slot (name:=Str.ofString "__len__") r.ty F.slot_dict_len (ab1 F.slot_dict_len r.ty F.entry_dict_len ?_ (F.args_dict_len_1 _)))))
 show wpAny _ _ (dictSize d >>= _) _ _ s
 unfold dictSize
 refine V8 (V8 (aa_ ho hd (aao ?_)))
 show wpAny _ _ (Builtin.Dict.pendingCount d >>= _) _ _ s
 refine V8 (wpAny_pendingCount_other lo (wpAny_ret_mkInt ?_))
 show wpAny _ _ _ _ _ {s with toks:=s.toks+1}
 refine V8 (abL (aao (V8 (wpAny_letGo ?_))))
 show wpAny _ _ (if((es.size+0:Nat):Int)<0 then _ else _) _ _ _
 rw[aak (by omega),Nat.add_zero]
 show wpAny _ _ (if((es.size:Nat):Int)≥2 ^ 63 then _ else _) _ _ _
 rw[aak (by omega)]
 exact V8 (wpAny_mkInt (aao ⟨_,rfl,h⟩))
theorem FW{d:Addr}{es:Array DictEntry}{ep:Nat}{Q:Bool→Shared→Prop}{P:Program}{w:World}(lo:(d ==sysModules)=false)(r:wN s.heap d es ep)(fit:(es.size:Int)<2 ^ 63)
  (h:Q ((es.size:Int) != 0) {s with toks:=s.toks+1+1}):wpAny (model P w) A (truthy (.ref d)) Q E s:=by
 have key:wpAny (model P w) A (runValue (.builtin "len" ⟨[.ref d],[]⟩)) (fun r s'=>r=.int es.size (s.toks+1)∧Q ((es.size:Int) != 0) s') E s:=by
  refine wpAny_runValue (codeAny_builtin entry_len ?_)
  rw[Around.under_plainId plain_len _]
  refine abt (Md (Q:=fun r s'=>r=.int es.size (s.toks+1)∧Q ((es.size:Int) != 0) s') lo r fit ⟨rfl,h⟩) (fun fin s' h'=>?_) fun _ _ e=>e
  obtain⟨r,rfl,hq⟩:=h'
  exact hq
 unfold truthy
 first
  | refine V8 (wpAny_callSpecial?_none (name:=Str.ofString "__bool__") r.ty noBool_dict ?_)
  | refine V8 (aao (V8 (wpAny_callSpecial?_none (name:=Str.ofString "__bool__") r.ty noBool_dict ?_)))
 first
  | refine V8 (ab_ (name:=Str.ofString "__len__") r.ty F.slot_dict_len.lookup ?_)
  | refine V8 (aao (V8 (ab_ (name:=Str.ofString "__len__") r.ty F.slot_dict_len.lookup ?_)))
 first
  | exact V8 (abt key (fun r s' h'=>by obtain⟨rfl,hq⟩:=h';exact aao hq) fun _ _ e=>e)
  | exact V8 (aao (V8 (abt key (fun r s' h'=>by obtain⟨rfl,hq⟩:=h';exact aao hq) fun _ _ e=>e)))
end
def OW(td ty:TE):TE:=fun σ H Q=>td σ H fun x H1=>∃a,x=.ref a∧QK H1 a∧ty σ H1 fun y H2=>∃b kvs more,y=.ref b∧H2 a=some (.dT kvs)∧Rd H2 b (.dT more)∧a≠b∧kvs≠[]∧kvs.length+more.length≤sizeLine∧Q .jo (upd H2 a (.dT (putAll kvs more)))
def OX(td ty:TE):TE:=fun σ H Q=>td σ H fun x H1=>∃a,x=.ref a∧QK H1 a∧ty σ H1 fun y H2=>∃b kvs more,y=.ref b∧H2 a=some (.dK kvs)∧Rd H2 b (.dK more)∧a≠b∧kvs.length+more.length≤sizeLine∧Q .jo (upd H2 a (.dK (putAll kvs more)))
def OY(td ty:TE):TE:=fun σ H Q=>td σ H fun x H1=>∃a,x=.ref a∧QK H1 a∧ty σ H1 fun y H2=>∃b kvs k v,y=.ref b∧H2 a=some (.dT kvs)∧H2 b=some (.tup (k.map kV))∧iR kvs k=some v∧Q v (upd H2 a (.dT (jT kvs k)))
section
variable{X:Cx}{o e f:Expr}{apos kY:Pos}{td ty tx:TE}
theorem JW(hu:X.A.units+1<cLine)(ho:PE X o td)(he:PE X e ty)(m:M1 X o "update" apos e kY):PE X (.Call (.Attribute o "update" apos) [e] [] kY) (OW td ty):=by
 intro c_ s σ H Q I h
 refine wpAny_Call_method m.base m.j0 m.line abD abW PySem.F.type_dict_update (i8 (ho c_ s σ H _ I h) fun u s1 iM=>?_)
 obtain⟨x,H1,I1,rx,a,ex,d,q1⟩:=iM
 subst ex
 obtain rfl:u=Value.ref a:=rx
 obtain⟨t1,t2,_⟩:=zt I1 d
 refine⟨t1,t2,?_⟩
 rw[m.trees]
 refine abe rfl (abo (abb (i8 (he c_ s1 σ H1 _ I1 q1) fun iv s2 iM=>?_)))
 obtain⟨y,H2,I2,ry,b,kvs,more,ey,ha,hb,ne,h0,hz,q2⟩:=iM
 refine abv ?_
 subst ey
 obtain rfl:iv=Value.ref b:=ry
 exact OT hu I2 ha hb ne h0 hz fun s3 I3=>⟨.jo,_,I3,rfl,q2⟩
theorem JX(ho:PE X o td)(he:PE X e ty)(m:M1 X o "update" apos e kY):PE X (.Call (.Attribute o "update" apos) [e] [] kY) (OX td ty):=by
 intro c_ s σ H Q I h
 refine wpAny_Call_method m.base m.j0 m.line abD abW PySem.F.type_dict_update (i8 (ho c_ s σ H _ I h) fun u s1 iM=>?_)
 obtain⟨x,H1,I1,rx,a,ex,d,q1⟩:=iM
 subst ex
 obtain rfl:u=Value.ref a:=rx
 obtain⟨t1,t2,_⟩:=zt I1 d
 refine⟨t1,t2,?_⟩
 rw[m.trees]
 refine abe rfl (abo (abb (i8 (he c_ s1 σ H1 _ I1 q1) fun iv s2 iM=>?_)))
 obtain⟨y,H2,I2,ry,b,kvs,more,ey,ha,hb,ne,hz,q2⟩:=iM
 refine abv ?_
 subst ey
 obtain rfl:iv=Value.ref b:=ry
 exact OU I2 ha hb ne hz fun s3 I3=>⟨.jo,_,I3,rfl,q2⟩
theorem JY(hu:X.A.units+1<cLine)(ho:PE X o td)(he:PE X e ty)(m:M1 X o "pop" apos e kY):PE X (.Call (.Attribute o "pop" apos) [e] [] kY) (OY td ty):=by
 intro c_ s σ H Q I h
 refine wpAny_Call_method m.base m.j0 m.line abD ab9 PySem.F.type_dict_pop (i8 (ho c_ s σ H _ I h) fun u s1 iM=>?_)
 obtain⟨x,H1,I1,rx,a,ex,d,q1⟩:=iM
 subst ex
 obtain rfl:u=Value.ref a:=rx
 obtain⟨t1,t2,_⟩:=zt I1 d
 refine⟨t1,t2,?_⟩
 rw[m.trees]
 refine abe rfl (abo (abb (i8 (he c_ s1 σ H1 _ I1 q1) fun iv s2 iM=>?_)))
 obtain⟨y,H2,I2,ry,b,kvs,k,v,ey,ha,hb,l,q2⟩:=iM
 refine abv ?_
 subst ey
 obtain rfl:iv=Value.ref b:=ry
 exact OV hu I2 ha hb l fun w' s3 I3 Br=>⟨v,_,I3,Br,q2⟩
theorem HY{a:Expr}{ta:TE}(ha:PE X a ta)(he:∀whole,isTrue a X.env whole=(do let v ←whole;standAt a.pos;holding [v] (truthy v))) :
  PT X a (fun σ H Q=>ta σ H fun x H'=>∃p kvs,x=.ref p∧H' p=some (.dT kvs)∧Q (!kvs.isEmpty) H'):=by
 intro c_ s σ H Q I h
 refine isTrue_plain (i8 (ha c_ s σ H _ I h) fun v s1 iM=>?_) (he _)
 obtain⟨x,H1,I1,r1,p,kvs,ex,hp,q⟩:=iM
 subst ex
 obtain rfl:v=Value.ref p:=r1
 obtain⟨lo,hz,es,ep,raw,sz,_⟩:=zG (I1.iP p _ hp)
 have hs:sizeLine=16777216:=sizeLine_eq
 refine FW lo raw (by omega) ?_
 have e:((es.size:Int) != 0)=!kvs.isEmpty:=by rw[sz];cases kvs<;>simp<;>omega
 rw[e]
 exact⟨H1,I1.tok _,q⟩
end
theorem HZ:bootBuiltins "enumerate"=some (.type "enumerate"):=by decide+kernel
section
variable{X:Cx}{c_:Qqz}{σ:St}{H:Hp}{s:Shared}{h':Heap}
theorem Inv.Me{t':Nat}{a b:Addr}(I:Inv X c_ σ H s)(k:∀c o,c≠a→c≠b→s.heap.get? c=some o→h'.get? c=some o)(fa:uj X c_ H a)(fb:uj X c_ H b)
  (ha:∃o,h'.get? a=some o) (hb:∃o,h'.get? b=some o):Inv X c_ σ H {s with heap:=h',toks:=t'}:=by
 obtain⟨a0,a1,a2,a3,a4,a5⟩:=fa
 obtain⟨b0,b1,b2,b3,b4,b5⟩:=fb
 have na:∀c u,H c=some u→c≠a:=fun c u e z=>by rw[z,a0] at e;cases e
 have nb:∀c u,H c=some u→c≠b:=fun c u e z=>by rw[z,b0] at e;cases e
 have out:∀c,c∉[a,b]→c≠a∧c≠b:=fun c hc=>⟨fun z=>hc (by simp[z]),fun z=>hc (by simp[z])⟩
 refine I.step (g':=s.gens) (d':=s.drawn) (ch:=[a,b]) (fun c hc=>?_) (fun c o _ _ hc e _=>k c o (out c hc).1 (out c hc).2 e) (fun c o _ _ hc e _=>⟨o.slots,k c o (out c hc).1 (out c hc).2 e⟩) (fun _ _ _ _ n=>n)
  (fun c o hc e=>⟨o,k c o (out c hc).1 (out c hc).2 e⟩) (fun _ _ e=>e) (fun _ _ _ e=>e) (fun c ps e=>⟨#[],by rw[e];simp⟩) (fun m hm=>?_) (fun c u e=>?_) I.bare
 ·rcases W3.mp hc with z|z
  ·rw[z];exact⟨a3,a1,a4,a5⟩
  ·rw[Tq.mp z];exact⟨b3,b1,b4,b5⟩
 ·obtain⟨o,es,ep,ho,r⟩:=hm
  exact⟨o,es,ep,k _ o (abJ a1) (abJ b1) ho,r⟩
 ·refine(I.iP c u e).zh (fun d v hd q=>k d v ?_ ?_ q) (fun _ q=>q) fun _ _ q=>q
  ·rcases hd with z|z
   ·rw[z];exact na c u e
   ·exact na d _ z
  ·rcases hd with z|z
   ·rw[z];exact nb c u e
   ·exact nb d _ z
end
def RX(t:TT):TT:=fun σ H Q=>∃M:Bool→Hp→Prop,t σ H M∧∀b H',M b H'→Q b H'
theorem JZ{X:Cx}{e:Expr}{t:TT}(h:PT X e t):PT X e (RX t):=fun c_ s σ H Q I ⟨M,h1,h2⟩=>i8 (h c_ s σ H M I h1) fun b s' ⟨H',I',q⟩=>⟨H',I',h2 b H' q⟩
noncomputable def RY(K:Qqy)(a:Addr):It:=
 ⟨fun i H=>∃xs x,hE K H a xs∧xs[i]?=some x,fun i H x H'=>∃t y,H t=none∧x=.ref t∧H'=upd H t (.tup [.int i,y])∧∀xs,hE K H a xs→xs[i]?=some y,fun i H=>∃xs,hE K H a xs∧xs.length≤i⟩
theorem H_{P:Program}{w:World}{K:Qqy}{elts:List Expr}{x1}{pos:Pos}(a e it:Addr)(oy:e≠it):Turn P w K (.Tuple elts x1 pos) (RY K a) [e,it] e (fun i h=>(∃old,IsEnum h e it ((i:Nat):Int) old)∧h.IsListIter it a i) where
 mem:=by simp
 obj:=fun i h ⟨⟨old,IJ⟩,Bq⟩ b hb=>by
  rcases W3.mp hb with z|z
  ·subst z;exact⟨_,IJ,fun v z=>by have z':Data.fields _=Data.cell v:=z;cases z'⟩
  ·rw[Tq.mp z]
   obtain⟨o,ho,c,d⟩:=Bq
   exact⟨o,ho,fun v z=>by rw[d] at z;cases z⟩
 keep:=fun i h h' ⟨⟨old,IJ⟩,Bq⟩ k=>⟨⟨old,k e (by simp) _ IJ⟩,Bq.at fun o ho=>k it (by simp) o ho⟩
 item:=by
  intro X hP hw hK hc i c_ s σ H E I hf ⟨⟨old,IJ⟩,Bq⟩ hg
  subst hP hw hK
  obtain⟨xs,x,hq,hx⟩:=hg
  obtain⟨ib,rv,p,hz⟩:=I.list hq
  obtain⟨u,hu,ru⟩:=rv.get hx
  have fe:=hf e (by simp)
  have fi:=hf it (by simp)
  have WW:e<s.heap.objs.size:=aax IJ
  refine wpAny_pyNext_enum_item IJ Bq p.isList (x:=u) (by simpa using hu) oy fun h₁ K6 WX ht₁ hz₁ hk₁=>?_
  refine⟨_,rfl,?_⟩
  refine wpAny_letOwnedTupleGo_enum K6 fun h₂ Z4 Th=>?_
  replace Th:Heap.SameBut e h₁ h₂:=Th
  have ht₂:h₂.get? s.heap.objs.size=some {cls:=.type "tuple",data:=.seq #[.int i s.toks,u]}:=(Th.2 _ (Nat.ne_of_gt WW)).trans ht₁
  have Ti:h₂.IsListIter it a (i+1):=WX.extBut Th.extBut (abJ oy)
  have WY:H s.heap.objs.size=none:=I.iP.fresh (ZA _)
  have rT:Vals [.int i,x] [.int i s.toks,u]:=.cons ⟨s.toks,rfl⟩ (.cons ru .nil)
  have I1:Inv X c_ σ (upd H s.heap.objs.size (.tup [.int i,x])) {s with heap:=s.heap.push {cls:=.type "tuple",data:=.seq #[.int i s.toks,u]},toks:=s.toks}:=
   I.laid (t':=s.toks) (fun b u e=>aag _ e) (ZA _) ⟨L2.j0,_,rT,⟨_,aaC _ rfl,rfl,_,rfl⟩⟩
  have up:∀b,uj X c_ H b→b<s.heap.objs.size→uj X c_ (upd H s.heap.objs.size (.tup [.int i,x])) b:=fun b f hb=>by
   obtain⟨f0,r⟩:=f
   exact⟨by rw[e_ (aaT hb)];exact f0,r⟩
  have QZ:it<s.heap.objs.size:=by obtain⟨o,ho,_⟩:=id Bq;exact aax ho
  obtain⟨oi,UZ,_⟩:=id Ti
  have I2:=I1.Me (h':=h₂) (t':=s.toks+1) (a:=e) (b:=it) (fun c o h1 h2 hc=>?_) (up e fe WW) (up it fi QZ) ⟨_,Z4⟩ ⟨oi,UZ⟩
  ·refine⟨.ref s.heap.objs.size,_,I2,rfl,⟨_,x,WY,rfl,rfl,fun ys hy=>by rw[I.pK hy hq];exact hx⟩,⟨⟨u,?_⟩,Ti⟩,fun b hb=>?_⟩
   ·have:((i+1:Nat):Int)=(i:Int)+1:=by push_cast;rfl
    rw[this];exact Z4
   ·rcases W3.mp hb with z|z
    ·subst z;exact(up _ fe WW).1
    ·rw[Tq.mp z];exact(up it fi QZ).1
  ·by_cases Z5:c=s.heap.objs.size
   ·subst Z5
    have:(s.heap.push {cls:=.type "tuple",data:=.seq #[.int i s.toks,u]}).get? s.heap.objs.size=some {cls:=.type "tuple",data:=.seq #[.int i s.toks,u]}:=aaC _ rfl
    rw[this] at hc;cases hc
    exact ht₂
   ·have Cf:s.heap.get? c=some o:=(Heap.get?_push_cases hc).elim (fun z=>absurd z.1 Z5) id
    exact(Th.2 c h1).trans (hk₁ c o h1 h2 Cf)
 done:=by
  intro X hP hw hK hc i c_ s σ H E I hf ⟨⟨old,IJ⟩,Bq⟩ hg
  subst hP hw hK
  obtain⟨xs,hq,hx⟩:=hg
  obtain⟨ib,rv,p,hz⟩:=I.list hq
  obtain⟨f0,f1,f2,f3,f4,f5⟩:=hf it (by simp)
  have hl:=rv.length
  exact wpAny_pyNext_enum_end (I.ok.hd hc) IJ Bq p.isList (Array.getElem?_eq_none (by simp;omega)) fun h' eb=>⟨rfl,I.turned (t':=s.toks) (fun b o hb e=>eb b o hb e) f0 f1 f3 f4 f5⟩
 self:=fun _ _ _ _ _ ⟨⟨old,IJ⟩,Bq⟩ h=>wpAny_pyIter_enum IJ h
def RZ(K:Qqy)(ta:TA):TI:=fun σ H R=>ta σ H fun vs H1=>∃a,vs=[.ref a]∧(∃xs,hE K H1 a xs)∧R (RY K a) H1
section
variable{X:Cx}
theorem Mf{a:Expr}{ta:TA}{p pos:Pos}{elts:List Expr}{x1}{P2:Pos}(hg:Gl X "enumerate")(hm:X.mg "enumerate"=none)(ha:PA X [a] ta)(hs:starEach [a] X.env=[(false,eval a X.env)]:=by rfl):PI X (.Tuple elts x1 P2) (.Call (.Name "enumerate" p) [a] [] pos) (RZ X.K ta):=by
 intro c_ s σ H R I h
 refine Call_ (pe I hg hm HZ (aaW (i8 (ha pos c_ s σ H _ I h) fun us s1 iM=>?_) hs rfl))
 obtain⟨vs,H1,I1,r1,q1⟩:=iM
 obtain⟨l,rfl,⟨xs,hq⟩,q⟩:=q1
 obtain⟨u,rfl,ru⟩:=vals1 r1
 cases (show u=Value.ref l from ru)
 obtain⟨ib,rv,pp,hz⟩:=I1.list hq
 refine call_enumerate_list pp.isList fun h' he hit hsz hk=>?_
 have I2:Inv X c_ σ H1 {s1 with heap:=h'}:=I1.kept (t':=s1.toks) hk
 refine wpAny_pyIter_enum he ?_
 refine⟨s1.heap.objs.size+1,[s1.heap.objs.size+1,s1.heap.objs.size],_,_,H1,rfl,I2,H_ l (s1.heap.objs.size+1) s1.heap.objs.size (Nat.succ_ne_self _),⟨⟨_,he⟩,hit⟩,fun b hb=>?_,q⟩
 rcases W3.mp hb with z|z
 ·subst z;exact I1.zi (by omega) (I1.iP.fresh (by omega))
 ·rw[Tq.mp z];exact I1.zi (ZA _) (I1.iP.fresh (ZA _))
theorem J0{K:PySem.W.Frag}{a:Addr}{xs:List V}{g:TG}{tb:TS}{D:Ends}{σ:St}{H:Hp}(Pv:Nat→St→Hp→Prop)(h0:Pv 0 σ H)(hl:∀i σ H,i≤xs.length→Pv i σ H→hE K H a xs)
  (hs:∀i x t σ H,xs[i]?=some x→Pv i σ H→H t=none→g (.ref t) σ (upd H t (.tup [.int i,x])) fun σ2 H2=>tb {D with nx:=Pv (i+1),ct:=Pv (i+1),bk:=D.nx} σ2 H2) (hd:∀σ H,Pv xs.length σ H→D.nx σ H) :
  ∃W:Nat→Nat→St→Hp→Prop,(∃m,W 0 m σ H)∧∀i m σ H,W i m σ H→
   ((RY K a).stop i H∧D.nx σ H)∨((RY K a).go i H∧∃N:St→Hp→Prop,(∀σ' H',N σ' H'→∃m',m'<m∧W (i+1) m' σ' H')∧∀x H',(RY K a).Jg i H x H'→g x σ H' fun σ2 H2=>tb {D with nx:=N,ct:=N,bk:=D.nx} σ2 H2):=by
 refine⟨fun i m σ H=>m=xs.length-i∧i≤xs.length∧Pv i σ H,⟨xs.length,by simp,aaI _,h0⟩,?_⟩
 rintro i m σ H ⟨rfl,hi,p⟩
 have q:=hl i σ H hi p
 by_cases kU:i<xs.length
 ·refine .inr ⟨⟨xs,xs[i],q,Wd kU⟩,Pv (i+1),fun σ' H' p'=>⟨xs.length-(i+1),by omega,rfl,kU,p'⟩,fun x H' y=>?_⟩
  obtain⟨t,z,ht,rfl,rfl,y⟩:=y
  exact hs i z t σ _ (y xs q) p ht
 ·have e:i=xs.length:=by omega
  subst e
  exact .inl ⟨⟨xs,q,ZA _⟩,hd σ H p⟩
end
structure DF(K:Qqy)(mg:Qqx)(x:Str)(st:Stmt)(a:Addr)(d:FuncData)(ps:List Str):Prop where
 f:xI K x x st a d
 b:Binds K d ps []
 m:mg x=some (.ref a)
structure DM(K:Qqy)(C:Addr)(x q:Str)(st:Stmt)(a:Addr)(d:FuncData)(ps:List Str):Prop where
 f:xI K x q st a d
 b:Binds K d ps []
 t:Meth K C x a
def FI(K:Qqy)(x:Str)(st:Stmt)(f:Addr):Prop:=W.nsIn K mainGlobals x=some (some (.ref f))∧∃d,xI K x x st f d
def MI(K:Qqy)(C:Addr)(x q:Str)(st:Stmt)(f:Addr):Prop:=Meth K C x f∧∃d,xI K x q st f d
section
variable{K:Qqy}{x q:Str}{st:Stmt}{f C:Addr}{oc kV doc pm js ct:Value}{od an:Option Addr}{IV:Array (Option Value)}
theorem R0(a:W.nsIn K mainGlobals x=some (some (.ref f)))(l:K.lookup f=some ⟨oc,od,.func (W.fnOf x x (oM st) (k_ st) (gc st) .none kV doc pm an js ct),IV⟩)(c:W.codeIn K js x=true)(k:W.keepIn K (.ref f)=true):FI K x st f:=⟨a,_,Jw l c k⟩
theorem R1(a:W.findIn K (.ref C) x=some (some (.ref f)))(i:W.isFn K (.ref f)=true)(l:K.lookup f=some ⟨oc,od,.func (W.fnOf x q (oM st) (k_ st) (gc st) .none kV doc pm an js ct),IV⟩)(c:W.codeIn K js q=true)(k:W.keepIn K (.ref f)=true):MI K C x q st f:=⟨⟨a,i,k⟩,_,Jw l c k⟩
end
theorem J2{X:Cx}{st:Stmt}{t:TS}(h:PS X st t):PS X st (fun D σ H=>∃d o u,H d=some (.nA o u)∧zF X d∧t D σ (upd H d u)):=fun c_ s σ H D I ⟨d,o,u,hd,nf,q⟩=>h c_ s σ _ D (I.wL hd nf) q
noncomputable def ZG(N P:List Str)(sc:Scope):Bool:=decide (sc.kind=.function)&&!sc.isCoroutine&&!sc.isGenerator&&decide N.Nodup&&decide (N.take P.length=P)&&P.all (fun x=>decide (sc.names.lookup x=some .local)||decide (sc.names.lookup x=some .cell))&&sc.names.all (fun y=>decide (y.2≠.free))
theorem mY{N P:List Str}{sc:Scope}(h:ZG N P sc=true:=by decide+kernel):gB N P sc:=by
 unfold ZG at h
 simp only [abp,abV,Bool.not_eq_true',abK,ack] at h
 obtain⟨⟨⟨⟨⟨⟨a,b⟩,c⟩,d⟩,e⟩,f⟩,g⟩:=h
 exact⟨a,b,c,d,e,f,g⟩
section
variable{X:Cx}{x q m:Str}{st:Stmt}{f C:Addr}{fd:FuncData}{ps:List Str}{sp:Sp}{k j:Nat}{e o:Expr}{es:List Expr}{t:TA}{ta:TE}{p pos apos:Pos}{E:XK}
theorem ml(D:DF X.K X.mg x st f fd ps)(F:ip X.prog X.w X.K X.mg X.base mU k f fd ps sp)(hr:kD j X.A)(ha:PA X (e::es) t)(hk:k≤j:=by decide)(hg:Gl X x:=by rfl)(Gx:(x ==("__debug__":Str))=false:=by decide)(he:starEach (e::es) X.env=(false,eval e X.env)::starEach es X.env:=by rfl)(qg:(backTo pos (starEach es X.env)).any (·.1)=false:=by rfl):PE X (.Call (.Name x p) (e::es) [] pos) (Jl sp [] E0 t):=uZ F (hr.mono hk) hg D.m D.f.kp D.b .nil pM ha Gx he qg
theorem Wb(b:Bx X E)(D:DF X.K X.mg x st f fd ps)(F:ip X.prog X.w X.K X.mg X.base (tL X.prog X.w) k f fd ps sp)(hr:kD j X.A)(ha:PA X (e::es) t)(hk:k≤j:=by decide)(hg:Gl X x:=by rfl)(Gx:(x ==("__debug__":Str))=false:=by decide)(he:starEach (e::es) X.env=(false,eval e X.env)::starEach es X.env:=by rfl)(qg:(backTo pos (starEach es X.env)).any (·.1)=false:=by rfl):PE X (.Call (.Name x p) (e::es) [] pos) (Jl sp [] E t):=uZ F (hr.mono hk) hg D.m D.f.kp D.b .nil (Nu b) ha Gx he qg
theorem uS{pl:Sem Bool}(h:PE X o ta)(c:Fo X.K C)(D:DM X.K C m q st f fd ps)(F:ip X.prog X.w X.K X.mg X.base mU k f fd ps sp)(hr:kD j X.A)(ha:PA X (e::es) t)(hk:k≤j:=by decide)(lG:starEach (e::es) X.env=(false,eval e X.env)::starEach es X.env:=by rfl)(qg:(backTo pos (starEach es X.env)).any (·.1)=false:=by rfl)
 (ht:eval (.Call (.Attribute o m apos) (e::es) [] pos) X.env=(do
  let ov ←eval o X.env
  standAt apos.atName
  let (f,first) ←holding [ov] (getMethod ov m pl)
  callWith pos f first (backTo pos (starEach (e::es) X.env)) (backToKw pos (keywordEach [] X.env))):=by rfl):PE X (.Call (.Attribute o m apos) (e::es) [] pos) (GR C m sp [] E0 ta t):=GS h c D.t F (hr.mono hk) D.b .nil pM ha lG qg ht
theorem A5(b:Bx X E){pl:Sem Bool}(h:PE X o ta)(c:Fo X.K C)(D:DM X.K C m q st f fd ps)(F:ip X.prog X.w X.K X.mg X.base (tL X.prog X.w) k f fd ps sp)(hr:kD j X.A)(ha:PA X (e::es) t)(hk:k≤j:=by decide)(lG:starEach (e::es) X.env=(false,eval e X.env)::starEach es X.env:=by rfl)(qg:(backTo pos (starEach es X.env)).any (·.1)=false:=by rfl)
 (ht:eval (.Call (.Attribute o m apos) (e::es) [] pos) X.env=(do
  let ov ←eval o X.env
  standAt apos.atName
  let (f,first) ←holding [ov] (getMethod ov m pl)
  callWith pos f first (backTo pos (starEach (e::es) X.env)) (backToKw pos (keywordEach [] X.env))):=by rfl):PE X (.Call (.Attribute o m apos) (e::es) [] pos) (GR C m sp [] E ta t):=GS h c D.t F (hr.mono hk) D.b .nil (Nu b) ha lG qg ht
end
section
variable{P:Program}{w:World}{K:Qqy}{mg:Qqx}{base:Heap}
theorem xI.rl{x qual:Str}{st:Stmt}{f:Addr}{fd:FuncData}{N ps:List Str}{k:Nat}{sp:Sp}(F:xI K x qual st f fd)(S:gB N ps (gc st))(wk:∀(js:Value)(A:Around)(outer:List Env)(s:Shared)(H:Hp)(vs:List V)(Q:VK)(E:XK),kD k (A.deeper (envOfC qual (gc st) s.heap.objs.size f js))→sp vs H Q E→∃t,Fn (wD mU P w K mg base N qual (gc st) f js A outer s H E).Rr (k_ st) t∧t {nx:=fun _ H'=>Q .jo H',rt:=Q} (start N vs) H)(len:∀vs H Q E,sp vs H Q E→vs.length=ps.length:=by intro _ _ _ _ h;repeat (first|(obtain⟨rfl,_⟩:=h;rfl)|obtain⟨_,h⟩:=h)):ip P w K mg base mU (k+1) f fd ps sp:=F.ok S len wk
theorem xI.rm{x qual:Str}{st:Stmt}{f:Addr}{fd:FuncData}{N ps:List Str}{k:Nat}{sp:Sp}(F:xI K x qual st f fd)(S:gB N ps (gc st))(wk:∀(js:Value)(A:Around)(outer:List Env)(s:Shared)(H:Hp)(vs:List V)(Q:VK)(E:XK),kD k (A.deeper (envOfC qual (gc st) s.heap.objs.size f js))→sp vs H Q E→∃t,Fn (wD (tL P w) P w K mg base N qual (gc st) f js A outer s H E) (k_ st) t∧t {nx:=fun _ H'=>Q .jo H',rt:=Q} (start N vs) H)(len:∀vs H Q E,sp vs H Q E→vs.length=ps.length:=by intro _ _ _ _ h;repeat (first|(obtain⟨rfl,_⟩:=h;rfl)|obtain⟨_,h⟩:=h)):ip P w K mg base (tL P w) (k+1) f fd ps sp:=F.ok1 S len wk
end
section
variable{X:Cx}{pos:Pos}
theorem lx(i:Nat){x:Str}{e:Expr}{te:TE}{pos':Pos}{N ps:List Str}{sc:Scope}(S:gB N ps sc)(he:PE X e te)(hN:X.N=N:=by rfl)(hi:X.N[i]?=some x:=by rfl)(hx:X.env.scope.names.lookup x=some .local:=by rfl)(hs:swapsWith e (some (.Name x pos')) pos.line X.env=pure false:=by rfl):PS X (.Assign [.Name x pos'] e pos) (Jf te (ma i)):=mV (hN▸S.nd) hi (.inl hx) he hs (.inr hx)
theorem tM(i:Nat){x:Str}{N ps:List Str}{sc:Scope}(S:gB N ps sc)(hN:X.N=N:=by rfl)(hi:X.N[i]?=some x:=by rfl)(hx:X.env.scope.names.lookup x=some .local:=by rfl):PG X (.Name x pos) (ma i):=iF (hN▸S.nd) hi (.inl hx) (.inr hx)
end
section
variable{K:Qqy}
theorem xI.bd{x qual:Str}{st:Stmt}{f:Addr}{fd:FuncData}{ps:List Str}(F:xI K x qual st f fd)(h:∀(kV doc pm:Value)(an:Option Addr)(js ct:Value)(us:List Value),us.length=ps.length→bindArgs (W.fnOf x qual (oM st) (k_ st) (gc st) .none kV doc pm an js ct) ⟨us,[]⟩=pure (ps.zip us):=by intro _ _ _ _ _ _ us hl;(repeat (rcases us with _|⟨_,us⟩<;>first|(simp at hl;done)|skip));rfl):Binds K fd ps []:=F.binds h
end
section
variable{X:Cx}{a b:Expr}{ta tb:TE}{pos:Pos}{k:Nat}
theorem mD(ha:PE X a ta)(hb:PE X b tb)(hs:GW b:=by exact fun _ _=>rfl):PE X (.Subscript a b pos) (RB (RJ X.K) ta tb):=jS kL ha hb hs
theorem zI(hr:kD k X.A)(ha:PE X a ta)(hb:PE X b tb)(hs:OD b:=by exact fun _ _=>rfl):PE X (.Subscript a b pos) (Nr ta tb):=L1 (iY hr) ha hb hs
theorem A6(h:PE X a ta)(e:ta=tb:=by(try simp only [lJ]);rfl):∃t,PE X a t∧t=tb:=⟨_,h,e⟩
end
end L2
namespace K01
section
variable{α:Type}[DecidableEq α]
noncomputable def lcs:List α→List α→Nat
 | [],_=>0
 | _::_,[]=>0
 | a::as,b::bs=>if b=a then lcs as bs+1 else max (lcs as (b::bs)) (lcs (a::as) bs)
termination_by x y=>x.length+y.length
def nZ(x y:List α)(n:Nat):Prop:=(∀s:List α,s.Sublist x→s.Sublist y→s.length≤n)∧∃s:List α,s.Sublist x∧s.Sublist y∧s.length=n
theorem nZ.uniq{x y:List α}{n m:Nat}(h:nZ x y n)(g:nZ x y m):n=m:=by
 obtain⟨h1,s,a,b,e⟩:=h
 obtain⟨g1,t,c,d,f⟩:=g
 have:=g1 s a b
 have:=h1 t c d
 omega
theorem nZ.Ep(y:List α):nZ [] y 0:=⟨fun s a _=>by have:=a.length_le;simpa using this,[],aaH _,List.nil_sublist _,rfl⟩
theorem nZ.BO(x:List α):nZ x [] 0:=⟨fun s _ b=>by have:=b.length_le;simpa using this,[],List.nil_sublist _,aaH _,rfl⟩
theorem lL{s as:List α}{a:α}(h:s.Sublist (a::as)):s.Sublist as∨∃t,s=a::t∧t.Sublist as:=by
 cases h with
 | cons _ h=>exact .inl h
 | cons_cons _ h=>exact .inr ⟨_,rfl,h⟩
theorem nZ.eq{as bs:List α}{a:α}{n:Nat}(h:nZ as bs n):nZ (a::as) (a::bs) (n+1):=by
 obtain⟨h1,s,x,y,e⟩:=h
 refine⟨fun t c d=>?_,a::s,x.cons_cons a,y.cons_cons a,by rw[aae,e]⟩
 rcases lL c with c2|⟨u,e2,c2⟩
 ·rcases lL d with d2|⟨v,e3,d2⟩
  ·have:=h1 t c2 d2;omega
  ·subst e3
   have:=h1 v ((abq a v).trans c2) d2
   rw[aae];omega
 ·have d':u.Sublist bs:=by
   subst e2
   rcases lL d with d2|⟨v,e',d2⟩
   ·exact(abq a u).trans d2
   ·cases e';exact d2
  have:=h1 u c2 d'
  subst e2
  rw[aae];omega
theorem nZ.ne{as bs:List α}{a b:α}{n m:Nat}(Ht:a≠b)(h:nZ as (b::bs) n)(g:nZ (a::as) bs m):nZ (a::as) (b::bs) (max n m):=by
 obtain⟨h1,s,x,y,e⟩:=h
 obtain⟨g1,s',x',y',e'⟩:=g
 refine⟨fun t c d=>?_,?_⟩
 ·rcases lL c with c'|⟨u,rfl,_⟩
  ·have:=h1 t c' d;omega
  ·rcases lL d with d'|⟨v,e,_⟩
   ·have:=g1 _ c d';omega
   ·cases e;exact absurd rfl Ht
 ·by_cases NR:m≤n
  ·exact⟨s,x.cons a,y,by omega⟩
  ·exact⟨s',x',y'.cons b,by omega⟩
theorem j3:∀x y:List α,nZ x y (lcs x y)
 | [],y=>by rw[lcs];exact .Ep y
 | a::as,[]=>by rw[lcs];exact .BO _
 | a::as,b::bs=>by
  rw[lcs]
  by_cases h:b=a
  ·rw[aap h];subst h;exact(j3 as bs).eq
  ·rw[aak h];exact .ne (fun e=>h e.symm) (j3 as (b::bs)) (j3 (a::as) bs)
termination_by x y=>x.length+y.length
theorem Mg(x:List α):lcs x []=0:=(j3 x []).uniq (.BO x)
theorem GZ(y:List α):lcs [] y=0:=(j3 [] y).uniq (.Ep y)
theorem zJ{x x' y y':List α}(h:x.Sublist x')(g:y.Sublist y'):lcs x y≤lcs x' y':=by
 obtain⟨_,s,a,b,e⟩:=j3 x y
 rw[←e]
 exact(j3 x' y').1 s (a.trans h) (b.trans g)
theorem Er(x y:List α):lcs x y≤x.length:=by
 obtain⟨_,s,a,b,e⟩:=j3 x y
 rw[←e];exact a.length_le
noncomputable def jb(a:α)(new:List α)(j:Nat):Option Nat:=((new.drop j).findIdx? (·=a)).map (j+·)
noncomputable def pN(new:List α):Nat→List α→Nat→List (Nat×Nat)
 | _,[],_=>[]
 | i,a::as,j=>match jb a new j with
  | none=>pN new (i+1) as j
  | some k=>if lcs as (new.drop (k+1))+1=lcs (a::as) (new.drop j) then(i,k)::pN new (i+1) as (k+1) else pN new (i+1) as j
noncomputable def kept(old new:List α):List (Nat×Nat):=pN new 0 old 0
theorem kE{a:α}{new:List α}{j k:Nat}(h:jb a new j=some k):j≤k∧new[k]?=some a∧∀l,j≤l→l<k→new[l]?≠some a:=by
 unfold jb at h
 cases e:(new.drop j).findIdx? (·=a) with
 | none=>rw[e] at h;cases h
 | some d=>
  rw[e] at h
  have h:j+d=k:=aau h
  subst h
  obtain⟨hd,h1,h2⟩:=List.findIdx?_eq_some_iff_getElem.mp e
  have h1:(new.drop j)[d]=a:=by simpa using h1
  refine⟨Nat.le_add_right _ _,?_,fun l hl hk q=>?_⟩
  ·rw[←ab6,Wd hd,h1]
  ·have:=h2 (l-j) (by omega)
   have hq:(new.drop j)[l-j]?=some a:=by rw[ab6,show j+(l-j)=l by omega];exact q
   obtain⟨hh,he⟩:=List.getElem?_eq_some_iff.mp hq
   simp[he] at this
theorem n1{a:α}{new:List α}{j:Nat}(h:jb a new j=none):∀l,j≤l→new[l]?≠some a:=by
 unfold jb at h
 cases e:(new.drop j).findIdx? (·=a) with
 | some d=>rw[e] at h;cases h
 | none=>
  intro l hl q
  have hq:(new.drop j)[l-j]?=some a:=by rw[ab6,show j+(l-j)=l by omega];exact q
  have:=List.findIdx?_eq_none_iff.mp e a (V_ hq)
  simp at this
theorem J3{a:α}{as y:List α}(h:a∉y):lcs (a::as) y=lcs as y:=by
 refine(j3 (a::as) y).uniq ⟨fun s c d=>?_,?_⟩
 ·rcases lL c with c|⟨t,rfl,c⟩
  ·exact(j3 as y).1 s c d
  ·exact absurd (d.subset aat) h
 ·obtain⟨_,s,c,d,e⟩:=j3 as y
  exact⟨s,c.cons a,d,e⟩
theorem ql{new:List α}{k:Nat}{a:α}(h:new[k]?=some a):new.drop k=a::new.drop (k+1):=by
 obtain⟨hk,e⟩:=List.getElem?_eq_some_iff.mp h
 rw[aaQ hk,e]
theorem zK{new:List α}{j k:Nat}(h:j≤k):(new.drop k).Sublist (new.drop j):=by
 have:new.drop k=(new.drop j).drop (k-j):=by rw[List.drop_drop];congr 1;omega
 rw[this];exact List.drop_sublist _ _
theorem CF{a:α}{as new:List α}{j l:Nat}(hl:j≤l)(h:new[l]?=some a):lcs as (new.drop (l+1))+1≤lcs (a::as) (new.drop j):=by
 have:lcs (a::as) (new.drop l)≤lcs (a::as) (new.drop j):=zJ (aaH _) (zK hl)
 rw[ql h,lcs,aap rfl] at this
 exact this
theorem zL{a:α}{as new:List α}{j k:Nat}(h:jb a new j=some k)(oy:lcs as (new.drop (k+1))+1≠lcs (a::as) (new.drop j)):lcs (a::as) (new.drop j)=lcs as (new.drop j):=by
 obtain⟨Tn,hk,M5⟩:=kE h
 have h1:=CF (as:=as) Tn hk
 have h2:lcs as (new.drop j)≤lcs (a::as) (new.drop j):=zJ (abq a as) (aaH _)
 obtain⟨hs,s,c,d,e⟩:=j3 (a::as) (new.drop j)
 rcases lL c with c2|⟨t,es,c2⟩
 ·have:=(j3 as (new.drop j)).1 s c2 d;omega
 ·exfalso
  subst es
  have key:∀(n:Nat)(j:Nat),k-j=n→j≤k→(∀l,j≤l→l<k→new[l]?≠some a)→(a::t).Sublist (new.drop j)→t.Sublist (new.drop (k+1)):=by
   intro n
   induction n with
   | zero=>
    intro j e1 e2 _ d
    have:j=k:=by omega
    subst this
    rw[ql hk] at d
    rcases lL d with d|⟨u,e,d⟩
    ·exact(abq a t).trans d
    ·cases e;exact d
   | succ n ih=>
    intro j e1 e2 hm d
    have hj:j<new.length:=by
     have:=(List.getElem?_eq_some_iff.mp hk).1;omega
    rw[aaQ hj] at d
    rcases lL d with d|⟨u,e,_⟩
    ·exact ih (j+1) (by omega) (by omega) (fun l hl=>hm l (by omega)) d
    ·exfalso
     have e0:a=new[j]:=(List.cons.inj e).1
     exact hm j (ZA _) (by omega) (by rw[Wd hj,←e0])
  have ht:=key _ j rfl Tn M5 d
  have:=(j3 as (new.drop (k+1))).1 t c2 ht
  rw[aae] at e
  omega
theorem Ia{a:α}{as new:List α}{j:Nat}(h:jb a new j=none):lcs (a::as) (new.drop j)=lcs as (new.drop j):=by
 refine J3 fun m=>?_
 obtain⟨l,hl⟩:=aaO.mp m
 rw[ab6] at hl
 exact n1 h (j+l) (Nat.le_add_right _ _) hl
theorem lM(new:List α):∀(old:List α)(i j:Nat),(pN new i old j).length=lcs old (new.drop j)
 | [],i,j=>by rw[pN,GZ];rfl
 | a::as,i,j=>by
  unfold pN
  cases h:jb a new j with
  | none=>simp only;rw[lM new as,Ia h]
  | some k=>
   simp only
   by_cases hc:lcs as (new.drop (k+1))+1=lcs (a::as) (new.drop j)
   ·rw[aap hc,aae,lM new as];exact hc
   ·rw[aak hc,lM new as,zL h hc]
inductive Good(old new:List α):Nat→Nat→List (Nat×Nat)→Prop
 | nil (i j):Good old new i j []
 | cons {i j p q r} (h1:i≤p) (h2:j≤q) (a:α) (e1:old[p]?=some a) (e2:new[q]?=some a)
  (h3:∀l m,i≤l→l≤p→j≤m→(l<p∨m<q)→∀b,old[l]?=some b→new[m]?=some b→¬r.length≤lcs (old.drop (l+1)) (new.drop (m+1)))
  (t:Good old new (p+1) (q+1) r):Good old new i j ((p,q)::r)
theorem Good.back{old new:List α}{i j:Nat}{a:α}{r:List (Nat×Nat)}(ha:old[i]?=some a)(hl:r.length=lcs (old.drop (i+1)) (new.drop j))(hn:∀m,j≤m→new[m]?=some a→lcs (old.drop (i+1)) (new.drop (m+1))+1≠r.length∧lcs (old.drop (i+1)) (new.drop (m+1))+1≤r.length)
  (h:Good old new (i+1) j r):Good old new i j r:=by
 cases h with
 | nil=>exact .nil _ _
 | @cons _ _ p q r h1 h2 b e1 e2 h3 t=>
  refine .cons (by omega) h2 b e1 e2 (fun l m WZ K9 hm kU c c1 c2 hle=>?_) t
  by_cases e:l=i
  ·subst e
   rw[ha] at c1
   cases c1
   have z:=hn m hm c2
   rw[aae] at z
   omega
  ·exact h3 l m (by omega) K9 hm kU c c1 c2 hle
theorem qm{old new:List α}:∀(rest:List α)(i j:Nat),old.drop i=rest→Good old new i j (pN new i rest j)
 | [],i,j,_=>by rw[pN];exact .nil _ _
 | a::as,i,j,e=>by
  have ha:old[i]?=some a:=by
   have:(old.drop i)[0]?=some a:=by rw[e];rfl
   rwa [ab6,Nat.add_zero] at this
  have e':old.drop (i+1)=as:=by
   have:=ql ha;rw[e] at this;exact(List.cons.inj this).2.symm
  have L:=lM new as (i+1) j
  unfold pN
  cases h:jb a new j with
  | none=>
   simp only
   refine Good.back ha (by rw[L,e']) (fun m hm q=>absurd q (n1 h m hm)) (qm as (i+1) j e')
  | some k=>
   obtain⟨Tn,hk,M5⟩:=kE h
   simp only
   by_cases hc:lcs as (new.drop (k+1))+1=lcs (a::as) (new.drop j)
   ·rw[aap hc]
    refine .cons (ZA _) Tn a ha hk (fun l m WZ K9 hm kU b c1 c2 _=>?_) (qm as (i+1) (k+1) e')
    have:l=i:=by omega
    subst this
    rw[ha] at c1
    cases c1
    exact M5 m hm (by omega) c2
   ·rw[aak hc]
    have S:=zL h hc
    refine Good.back ha (by rw[L,e']) (fun m hm q=>?_) (qm as (i+1) j e')
    rw[L,e',←S]
    have h1:=CF (as:=as) hm q
    refine⟨fun z=>?_,h1⟩
    have hkm:k≤m:=by
     rcases Nat.lt_or_ge m k with z'|z'
     ·exact absurd q (M5 m hm z')
     ·exact z'
    have h2:lcs as (new.drop (m+1))≤lcs as (new.drop (k+1)):=zJ (aaH _) (zK (by omega))
    have h3:=CF (as:=as) Tn hk
    omega
theorem Ib(old new:List α):Good old new 0 0 (kept old new):=qm old 0 0 rfl
theorem xM(old new:List α):(kept old new).length=lcs old new:=lM new old 0 0
noncomputable def pre(old new:List α)(i k:Nat):Nat:=lcs (old.take i) (new.take k)
noncomputable def wO(old new:List α)(i j:Nat):Nat:=lcs (old.drop i) (new.drop j)
theorem y0{old new:List α}{i j:Nat}(h:old.length≤i∨new.length≤j):wO old new i j=0:=by
 unfold wO
 rcases h with h|h
 ·rw[List.drop_eq_nil_of_le h,GZ]
 ·rw[List.drop_eq_nil_of_le h,Mg]
theorem Mh{old new:List α}{i j:Nat}{a b:α}(ha:old[i]?=some a)(hb:new[j]?=some b) :
  wO old new i j=if b=a then wO old new (i+1) (j+1)+1 else max (wO old new (i+1) j) (wO old new i (j+1)):=by
 unfold wO
 rw[ql ha,ql hb,lcs,←ql ha,←ql hb]
end
end K01
namespace PM
open PySem
abbrev Nm:=Str×Nat
structure Ln where
 nm:Nm
 tx:Str
 up:Option Nm
 lo:Option Nm
 deriving DecidableEq
structure Pt where
 nm:Str
 file:Option Str
 ir:List Ln
 i3:List Nm
 other:Option Str
 deriving DecidableEq
noncomputable def lN:List Pt→List Str→List Pt
 | [],_=>[]
 | p::r,t=>if p.nm∈t then lN r t else p::lN r (match p.other with|some o=>o::t|none=>t)
noncomputable def live(ps:List Pt):List Pt:=(lN ps.reverse []).reverse
noncomputable def gg(ps:List Pt)(f:Str):List Ln:=(ps.filter fun p=>p.file=some f).flatMap (·.ir)
noncomputable def gone(ps:List Pt):List Nm:=ps.flatMap (·.i3)
noncomputable def j_(ps:List Pt)(f:Str):List Ln:=(gg (live ps) f).filter fun l=>l.nm∉gone (live ps)
theorem wQ:∀(ps:List Pt)(t:List Str),(lN ps t).Sublist ps
 | [],_=>aaH _
 | p::r,t=>by
  unfold lN
  split
  ·exact(wQ r t).cons p
  ·exact(wQ r _).cons_cons p
theorem zM(ps:List Pt):(live ps).Sublist ps:=by
 have:=(wQ ps.reverse []).reverse
 rwa [List.reverse_reverse] at this
theorem u_{ps qs:List Pt}(h:ps.Sublist qs)(f:Str):(gg ps f).Sublist (gg qs f):=by
 unfold gg
 have h:=h.filter (fun p=>decide (p.file=some f))
 generalize ps.filter _=a at h
 generalize qs.filter _=b at h
 induction h with
 | slnil=>exact aaH _
 | cons x _ ih=>rw[aaJ];exact ih.trans (aa3 _ _)
 | cons_cons x _ ih=>rw[aaJ,aaJ];exact(aaH _).append ih
theorem j4(ps:List Pt)(f:Str):(j_ ps f).Sublist (gg ps f):=
 aaS.trans (u_ (zM ps) f)
def Sa(ls:List Ln)(m n:Nm):Prop:=∃l∈ls,(l.nm=n∧l.up=some m)∨(l.nm=m∧l.lo=some n)
inductive Ah(ls:List Ln):Nm→Nm→Prop
 | one {m n}:Sa ls m n→Ah ls m n
 | J4 {m k n}:Ah ls m k→Sa ls k n→Ah ls m n
theorem Ah.trans{ls:List Ln}{m k n:Nm}(a:Ah ls m k)(b:Ah ls k n):Ah ls m n:=by
 induction b with
 | one h=>exact .J4 a h
 | J4 _ h ih=>exact .J4 ih h
theorem Sa.mono{l1 l2:List Ln}(h:∀l∈l1,l∈l2){m n:Nm}(a:Sa l1 m n):Sa l2 m n:=by
 obtain⟨l,hl,q⟩:=a
 exact⟨l,h l hl,q⟩
theorem Ah.mono{l1 l2:List Ln}(h:∀l∈l1,l∈l2){m n:Nm}(a:Ah l1 m n):Ah l2 m n:=by
 induction a with
 | one x=>exact .one (x.mono h)
 | J4 _ x ih=>exact .J4 ih (x.mono h)
theorem Ah.last{ls:List Ln}{m n:Nm}:Ah ls m n↔Sa ls m n∨∃k,Ah ls m k∧Sa ls k n:=by
 constructor
 ·intro h
  cases h with
  | one x=>exact .inl x
  | J4 a x=>exact .inr ⟨_,a,x⟩
 ·rintro(x|⟨k,a,x⟩)
  ·exact .one x
  ·exact .J4 a x
def Rk(ls:List Ln)(rk:Nm→Nat):Prop:=∀l∈ls,(∀m,l.up=some m→rk m<rk l.nm)∧(∀m,l.lo=some m→rk l.nm<rk m)
def J6(ls:List Ln):Prop:=∃rk,Rk ls rk
theorem Rk.sa{ls:List Ln}{rk:Nm→Nat}(r:Rk ls rk){m n:Nm}(h:Sa ls m n):rk m<rk n:=by
 obtain⟨l,hl,⟨rfl,e⟩|⟨rfl,e⟩⟩:=h
 ·exact(r l hl).1 m e
 ·exact(r l hl).2 n e
theorem Rk.ah{ls:List Ln}{rk:Nm→Nat}(r:Rk ls rk){m n:Nm}(h:Ah ls m n):rk m<rk n:=by
 induction h with
 | one x=>exact r.sa x
 | J4 _ x ih=>exact Nat.lt_trans ih (r.sa x)
def mZ(ls:List Ln):Prop:=∀l∈ls,(∀m,l.up=some m→m∈ls.map (·.nm))∧(∀m,l.lo=some m→m∈ls.map (·.nm))
theorem mZ.sa{ls:List Ln}(c:mZ ls){m n:Nm}(h:Sa ls m n):m∈ls.map (·.nm)∧n∈ls.map (·.nm):=by
 obtain⟨l,hl,⟨rfl,e⟩|⟨rfl,e⟩⟩:=h
 ·exact⟨(c l hl).1 m e,Wc hl⟩
 ·exact⟨Wc hl,(c l hl).2 n e⟩
theorem mZ.ah{ls:List Ln}(c:mZ ls){m n:Nm}(h:Ah ls m n):m∈ls.map (·.nm)∧n∈ls.map (·.nm):=by
 induction h with
 | one x=>exact c.sa x
 | J4 _ x ih=>exact⟨ih.1,(c.sa x).2⟩
section
open Classical
variable(lt:Nm→Nm→Prop)
noncomputable def free(ls:List Ln)(l:Ln):Bool:=decide (∀o∈ls,¬lt o.nm l.nm)
noncomputable def n4:Nat→List Ln→List Ln
 | 0,_=>[]
 | n+1,ls=>match ls.find? (free lt ls) with
  | none=>[]
  | some l=>l::n4 n (ls.filter fun o=>o.nm≠l.nm)
noncomputable def rowOf(ls:List Ln):List Ln:=n4 lt ls.length ls
def ltAt(row:List Ln)(i j:Nat):Prop:=∃a b,row[i]?=some a∧row[j]?=some b∧lt a.nm b.nm
noncomputable def jv(row:List Ln):List (Nat×Nat):=
 (List.range row.length).flatMap fun i=>((List.range' (i+1) (row.length-(i+1))).filter fun j=>decide (¬ltAt lt row i j)).map fun j=>(i,j)
variable{lt}
theorem xN{rk:Nm→Nat}(hr:∀m n,lt m n→rk m<rk n):∀(ls:List Ln),ls≠[]→∃l,ls.find? (free lt ls)=some l:=by
 intro ls hn
 have least:∀(xs:List Ln),xs≠[]→∃l∈xs,∀o∈xs,rk l.nm≤rk o.nm:=by
  intro xs
  induction xs with
  | nil=>intro h;exact absurd rfl h
  | cons x r ih=>
   intro _
   by_cases h:r=[]
   ·subst h;exact⟨x,by simp,fun o ho=>by simp at ho;rw[ho];exact ZA _⟩
   ·obtain⟨l,hl,hm⟩:=ih h
    by_cases hx:rk x.nm≤rk l.nm
    ·refine⟨x,by simp,fun o ho=>?_⟩
     rcases W3.mp ho with rfl|ho
     ·exact ZA _
     ·exact aac hx (hm o ho)
    ·refine⟨l,aad _ hl,fun o ho=>?_⟩
     rcases W3.mp ho with rfl|ho
     ·omega
     ·exact hm o ho
 obtain⟨l,hl,hm⟩:=least ls hn
 have hf:free lt ls l=true:=ZF fun o ho kU=>by have:=hr _ _ kU;have:=hm o ho;omega
 cases e:ls.find? (free lt ls) with
 | some x=>exact⟨x,rfl⟩
 | none=>exact absurd hf (by have:=List.find?_eq_none.mp e l hl;simpa using this)
theorem pO{ls:List Ln}(nd:(ls.map (·.nm)).Nodup){l:Ln}(hl:l∈ls):(ls.filter fun o=>o.nm≠l.nm).length+1=ls.length:=by
 induction ls with
 | nil=>cases hl
 | cons x r ih=>
  rw[aav,aaL] at nd
  rcases W3.mp hl with rfl|hl
  ·have e:r.filter (fun o=>decide (o.nm≠l.nm))=r:=List.filter_eq_self.mpr fun o ho=>ZF fun z=>nd.1 (z▸Wc ho)
   rw[aaj (by simp),e,aae]
  ·have hx:x.nm≠l.nm:=fun z=>nd.1 (z▸Wc hl)
   rw[aab (by simpa using hx),aae,aae,ih nd.2 hl]
theorem yJ{ls:List Ln}(nd:(ls.map (·.nm)).Nodup)(p:Ln→Bool):((ls.filter p).map (·.nm)).Nodup:=(aaS.map _).nodup nd
theorem zN{rk:Nm→Nat}(hr:∀m n,lt m n→rk m<rk n):∀(n:Nat)(ls:List Ln),n=ls.length→(ls.map (·.nm)).Nodup→(n4 lt n ls).Perm ls
 | 0,ls,e,_=>by
  have:ls=[]:=aaK.mp e.symm
  subst this;exact List.Perm.refl _
 | n+1,ls,e,nd=>by
  have hn:ls≠[]:=fun z=>by subst z;cases e
  obtain⟨l,hf⟩:=xN hr ls hn
  have hl:l∈ls:=List.mem_of_find?_eq_some hf
  unfold n4
  rw[hf]
  have hlen:=pO nd hl
  have ih:=zN hr n (ls.filter fun o=>o.nm≠l.nm) (by omega) (yJ nd _)
  refine(ih.cons l).trans ?_
  clear ih hf hlen e hn
  induction ls with
  | nil=>cases hl
  | cons x r ih=>
   rw[aav,aaL] at nd
   rcases W3.mp hl with rfl|hl
   ·have e:r.filter (fun o=>decide (o.nm≠l.nm))=r:=List.filter_eq_self.mpr fun o ho=>ZF fun z=>nd.1 (z▸Wc ho)
    rw[aaj (by simp),e]
   ·have hx:x.nm≠l.nm:=fun z=>nd.1 (z▸Wc hl)
    rw[aab (by simpa using hx)]
    exact(List.Perm.swap _ _ _).trans ((ih nd.2 hl).cons x)
theorem FX{rk:Nm→Nat}(hr:∀m n,lt m n→rk m<rk n){ls:List Ln}(nd:(ls.map (·.nm)).Nodup):(rowOf lt ls).Perm ls:=zN hr _ ls rfl nd
end
noncomputable def Es(sf:Nm→List Nm)(S:List Nm)(x:Nm):List Nm:=(sf x).filter fun y=>y∉S
inductive Run(sf:Nm→List Nm)(B:Nat):Nat→List Nm→List Nm→Prop
 | nil {S}:Run sf B 0 [] S
 | skip {n x st S}:x∈S→(x::st).length≤B→Run sf B n st S→Run sf B (n+1) (x::st) S
 | fin {n x st S}:x∉S→Es sf S x=[]→(x::st).length≤B→Run sf B n st (S++[x])→Run sf B (n+1) (x::st) S
 | push {n x st S}:x∉S→Es sf S x≠[]→(x::st).length≤B→Run sf B n ((Es sf S x).reverse++x::st) S→Run sf B (n+1) (x::st) S
theorem CG{sf:Nm→List Nm}{S:List Nm}{x:Nm}:Es sf S x=[]↔∀y∈sf x,y∈S:=by
 unfold Es
 rw[ab3]
 exact⟨fun h y hy=>by simpa using h y hy,fun h y hy=>by simpa using h y hy⟩
theorem Mi{sf:Nm→List Nm}{B N:Nat}(cr:Nm→Nat)(hN:∀x,(sf x).length≤N)(hc:∀x y,y∈sf x→cr y<cr x):∀(k:Nat)(x:Nm),cr x≤k→∀(st S:List Nm),st.length+1+N*cr x≤B→
  (∀S',(∀y∈S,y∈S')→x∈S'→∃n,Run sf B n st S')→∃n,Run sf B n (x::st) S:=by
 intro k
 induction k with
 | zero=>
  intro x hx st S hB go
  by_cases hm:x∈S
  ·obtain⟨n,r⟩:=go S (fun _ h=>h) hm
   exact⟨n+1,.skip hm (by rw[aae];omega) r⟩
  ·have e:Es sf S x=[]:=CG.mpr fun y hy=>by have:=hc x y hy;omega
   obtain⟨n,r⟩:=go (S++[x]) (fun _ h=>aal _ h) (by simp)
   exact⟨n+1,.fin hm e (by rw[aae];omega) r⟩
 | succ k ih=>
  intro x hx st S hB go
  have hlen:(x::st).length≤B:=by rw[aae];omega
  by_cases hm:x∈S
  ·obtain⟨n,r⟩:=go S (fun _ h=>h) hm
   exact⟨n+1,.skip hm hlen r⟩
  ·by_cases e:Es sf S x=[]
   ·obtain⟨n,r⟩:=go (S++[x]) (fun _ h=>aal _ h) (by simp)
    exact⟨n+1,.fin hm e hlen r⟩
   ·
    have many:∀(ms:List Nm)(S0:List Nm),(∀y∈ms,y∈sf x)→ms.length≤N→(∀S',(∀y∈S0,y∈S')→(∀y∈ms,y∈S')→∃n,Run sf B n (x::st) S')→∃n,Run sf B n (ms++x::st) S0:=by
     intro ms
     induction ms with
     | nil=>intro S0 _ _ h;exact h S0 (fun _ z=>z) (fun y hy=>by cases hy)
     | cons m r ihm=>
      intro S0 hs hl h
      have NS:=hc x m (hs m aat)
      rw[aae] at hl
      refine ih m (by omega) (r++x::st) S0 ?_ fun S1 h1 WS=>ihm S1 (fun y hy=>hs y (aad _ hy)) (by omega) fun S2 h2 h3=>h S2 (fun y hy=>h2 y (h1 y hy)) fun y hy=>?_
      ·rw[ZD,aae]
       have:N*cr m+N≤N*cr x:=by rw[←Nat.mul_succ];exact Nat.mul_le_mul_left N NS
       omega
      ·rcases W3.mp hy with z|z
       ·rw[z];exact h2 m WS
       ·exact h3 y z
    have Bu:(Es sf S x).length≤N:=aac (aaN _ _) (hN x)
    have cont:∀S',(∀y∈S,y∈S')→(∀y∈(Es sf S x).reverse,y∈S')→∃n,Run sf B n (x::st) S':=fun S' h1 h2=>by
     by_cases LF:x∈S'
     ·obtain⟨n,r⟩:=go S' h1 LF
      exact⟨n+1,.skip LF hlen r⟩
     ·have e':Es sf S' x=[]:=CG.mpr fun y hy=>by
       by_cases MX:y∈S
       ·exact h1 y MX
       ·exact h2 y (List.mem_reverse.mpr (ZH.mpr ⟨hy,by simpa using MX⟩))
      obtain⟨n,r⟩:=go (S'++[x]) (fun y hy=>aal _ (h1 y hy)) (by simp)
      exact⟨n+1,.fin LF e' hlen r⟩
    obtain⟨n,r⟩:=many (Es sf S x).reverse S (fun y hy=>(ZH.mp (List.mem_reverse.mp hy)).1) (by rw[abi];exact Bu) cont
    exact⟨n+1,.push hm e hlen r⟩
noncomputable def QP(ls:List Ln)(rk:Nm→Nat)(n:Nm):Nat:=(ls.filter fun l=>rk l.nm<rk n).length
theorem OZ(ls:List Ln)(rk:Nm→Nat)(n:Nm):QP ls rk n≤ls.length:=aaN _ _
theorem O0{ls:List Ln}{rk:Nm→Nat}{m n:Nm}(hm:m∈ls.map (·.nm))(h:rk m<rk n):QP ls rk m<QP ls rk n:=by
 unfold QP
 have mono:∀{a b:Ln→Bool} {xs:List Ln},(∀x∈xs,a x=true→b x=true)→(xs.filter a).length≤(xs.filter b).length:=by
  intro a b xs Ht
  induction xs with
  | nil=>exact ZA _
  | cons x r ih=>
   have ih:=ih fun y hy=>Ht y (aad _ hy)
   by_cases ha:a x=true
   ·rw[aab ha,aab (Ht x aat ha),aae,aae];omega
   ·rw[aaj ha]
    by_cases hb:b x=true
    ·rw[aab hb,aae];omega
    ·rw[aaj hb];exact ih
 obtain⟨l,hl,rfl⟩:=List.mem_map.mp hm
 obtain⟨a,b,rfl⟩:=List.append_of_mem hl
 rw[aaF,aaF,ZD,ZD]
 rw[aaj (by simp),aab (by simpa using h),aae]
 have h1:=mono (a:=fun x:Ln=>decide (rk x.nm<rk l.nm)) (b:=fun x=>decide (rk x.nm<rk n)) (xs:=a) fun x _ hx=>by simp at hx ⊢;omega
 have h2:=mono (a:=fun x:Ln=>decide (rk x.nm<rk l.nm)) (b:=fun x=>decide (rk x.nm<rk n)) (xs:=b) fun x _ hx=>by simp at hx ⊢;omega
 omega
theorem len_sub{xs ys:List Nm}(nd:xs.Nodup)(h:∀x∈xs,x∈ys):xs.length≤ys.length:=by
 induction xs generalizing ys with
 | nil=>exact aaI _
 | cons a r ih=>
  rw[aaL] at nd
  obtain⟨p,q,rfl⟩:=List.append_of_mem (h a aat)
  have:=ih (ys:=p++q) nd.2 fun z hz=>by
   have:=h z (aad _ hz)
   rcases W9.mp this with w|w
   ·exact aal _ w
   ·rcases W3.mp w with w|w
    ·exact absurd (w▸hz) nd.1
    ·exact aaG _ w
  rw[ZD] at this
  rw[aae,ZD,aae]
  omega
theorem J7{ls:List Ln}(cl:mZ ls)(tp:J6 ls){sf:Nm→List Nm}(hs:∀n,(sf n).Nodup∧∀m,m∈sf n↔Sa ls m n)(x:Nm)(S:List Nm):∃n,Run sf (1+ls.length*ls.length) n [x] S:=by
 obtain⟨rk,hr⟩:=tp
 have W0:∀n,(sf n).length≤ls.length:=fun n=>by
  have:=len_sub (ys:=ls.map (·.nm)) (hs n).1 fun y hy=>(cl.sa (((hs n).2 y).mp hy)).1
  rw[Tj] at this
  exact this
 refine Mi (N:=ls.length) (QP ls rk) W0 (fun x y hy=>?_) _ x (ZA _) [] S ?_ fun S' _ _=>⟨0,.nil⟩
 ·have h:=((hs x).2 y).mp hy
  exact O0 (cl.sa h).1 (hr.sa h)
 ·have:=Nat.mul_le_mul_left ls.length (OZ ls rk x)
  show 0+1+ls.length*QP ls rk x≤1+ls.length*ls.length
  omega
def FY(n m:Nat)(qs:List (Nat×Nat)):Prop:=qs.Pairwise (fun a b=>a.1<b.1∧a.2<b.2)∧∀q∈qs,q.1<n∧q.2<m
theorem Ic{α:Type}[DecidableEq α]{old new:List α}{i j:Nat}{qs:List (Nat×Nat)}(g:K01.Good old new i j qs):FY old.length new.length qs∧∀q∈qs,i≤q.1∧j≤q.2:=by
 induction g with
 | nil=>exact⟨⟨List.Pairwise.nil,fun q hq=>by cases hq⟩,fun q hq=>by cases hq⟩
 | @cons i j p q r h1 h2 a e1 e2 h3 t ih=>
  obtain⟨⟨h4,h5⟩,h6⟩:=ih
  refine⟨⟨List.Pairwise.cons (fun b hb=>?_) h4,fun b hb=>?_⟩,fun b hb=>?_⟩
  ·have:=h6 b hb
   exact⟨by show p<b.1;omega,by show q<b.2;omega⟩
  ·rcases W3.mp hb with rfl|hb
   ·exact⟨(List.getElem?_eq_some_iff.mp e1).1,(List.getElem?_eq_some_iff.mp e2).1⟩
   ·exact h5 b hb
  ·rcases W3.mp hb with rfl|hb
   ·exact⟨h1,h2⟩
   ·have:=h6 b hb
    omega
theorem pP{α:Type}[DecidableEq α](old new:List α):FY old.length new.length (K01.kept old new):=(Ic (K01.Ib old new)).1
noncomputable def l8(row:List Ln):List (Nat×Nat)→Nat→Option Nm
 | [],_=>none
 | q::r,s=>if q.2=s then(row[q.1]?).map (·.nm) else l8 row r s
noncomputable def ur(row:List Ln)(qs:List (Nat×Nat)):List Nm:=qs.filterMap fun q=>(row[q.1]?).map (·.nm)
theorem uu{row:List Ln}{qs:List (Nat×Nat)}{s:Nat}{m:Nm}(h:l8 row qs s=some m):∃q∈qs,q.2=s∧∃l,row[q.1]?=some l∧l.nm=m:=by
 induction qs with
 | nil=>cases h
 | cons q r ih=>
  unfold l8 at h
  by_cases e:q.2=s
  ·rw[aap e] at h
   obtain⟨l,hl,e2⟩:=Option.map_eq_some_iff.mp h
   exact⟨q,aat,e,l,hl,e2⟩
  ·rw[aak e] at h
   obtain⟨q',hq,z⟩:=ih h
   exact⟨q',aad _ hq,z⟩
theorem CH{row:List Ln}{m:Nat}:∀{qs:List (Nat×Nat)},FY row.length m qs→∀s,(l8 row qs s).isSome=decide (s∈qs.map (·.2))
 | [],_,s=>rfl
 | q::r,h,s=>by
  have hr:FY row.length m r:=⟨(List.pairwise_cons.mp h.1).2,fun x hx=>h.2 x (aad _ hx)⟩
  unfold l8
  by_cases e:q.2=s
  ·rw[aap e,Wd (h.2 q aat).1,ZF (by rw[aav,e];exact aat)];rfl
  ·rw[aak e,CH hr s,aav]
   by_cases z:s∈r.map (·.2)
   ·rw[ZF z,ZF (aad _ z)]
   ·rw[aaf z,aaf (fun w=>(W3.mp w).elim (fun w=>e w.symm) z)]
theorem Mj{row:List Ln}{qs:List (Nat×Nat)}{m:Nat}{rk:Nm→Nat}(h:FY row.length m qs)(hr:row.Pairwise fun a b=>rk a.nm<rk b.nm){s t:Nat}{a b:Nm}(hs:l8 row qs s=some a)(ht:l8 row qs t=some b)(lG:s<t):rk a<rk b:=by
 obtain⟨q1,h1,e1,l1,r1,rfl⟩:=uu hs
 obtain⟨q2,h2,e2,l2,r2,rfl⟩:=uu ht
 have kU:q1.1<q2.1:=by
  obtain⟨i,hi,ei⟩:=List.mem_iff_getElem.mp h1
  obtain⟨j,hj,ej⟩:=List.mem_iff_getElem.mp h2
  have hp:=abg.mp h.1
  rcases Nat.lt_trichotomy i j with z|z|z
  ·have:=hp i j hi hj z;rw[ei,ej] at this;exact this.1
  ·subst z;rw[ei] at ej;subst ej;omega
  ·have:=hp j i hj hi z;rw[ei,ej] at this;omega
 obtain⟨g1,w1⟩:=List.getElem?_eq_some_iff.mp r1
 obtain⟨g2,w2⟩:=List.getElem?_eq_some_iff.mp r2
 have:=abg.mp hr _ _ g1 g2 kU
 rw[w1,w2] at this
 exact this
noncomputable def G0(kn:Nat→Option Nm):Nat→Nat→Option Nm
 | 0,_=>none
 | k+1,i=>match kn (i+1) with|some m=>some m|none=>G0 kn k (i+1)
noncomputable def oB(p:Str)(kn:Nat→Option Nm):Nat→Nat→Option Nm→List Str→List Ln
 | _,_,_,[]=>[]
 | i,j,u,t::r=>match kn i with
  | some m=>oB p kn (i+1) j (some m) r
  | none=>⟨(p,j),t,u,G0 kn r.length i⟩::oB p kn (i+1) (j+1) (some (p,j)) r
noncomputable def jD(p:Str)(texts:List Str)(kn:Nat→Option Nm):List Ln:=oB p kn 0 0 none texts
noncomputable def kc(p f:Str)(row:List Ln)(texts:List Str):Pt:=
 ⟨p,some f,jD p texts (l8 row (K01.kept (row.map (·.tx)) texts)),(row.filter fun l=>l.nm∉ur row (K01.kept (row.map (·.tx)) texts)).map (·.nm),none⟩
theorem rH(p:Str)(kn:Nat→Option Nm):∀(r:List Str)(i j:Nat)(u:Option Nm),(oB p kn i j u r).map (·.nm)=(List.range' j (oB p kn i j u r).length).map fun k=>(p,k)
 | [],_,_,_=>rfl
 | t::r,i,j,u=>by
  unfold oB
  cases h:kn i with
  | some m=>exact rH p kn r (i+1) j (some m)
  | none=>
   simp only [aav,aae,acg]
   rw[rH p kn r (i+1) (j+1) (some (p,j))]
theorem zO(p:Str)(kn:Nat→Option Nm):∀(r:List Str)(i j:Nat)(u:Option Nm),(oB p kn i j u r).length=((List.range' i r.length).filter fun k=>(kn k).isNone).length
 | [],_,_,_=>rfl
 | t::r,i,j,u=>by
  unfold oB
  rw[aae,acg]
  cases h:kn i with
  | some m=>rw[aaj (by simp[h])];exact zO p kn r (i+1) j (some m)
  | none=>rw[aab (by simp[h]),aae];simp only [aae];rw[zO p kn r (i+1) (j+1) (some (p,j))]
theorem vc{kn:Nat→Option Nm}{m:Nm}:∀{k i:Nat},G0 kn k i=some m→∃t,i<t∧t≤i+k∧kn t=some m
 | 0,_,h=>by cases h
 | k+1,i,h=>by
  unfold G0 at h
  cases e:kn (i+1) with
  | some m'=>
   rw[e] at h
   cases h
   exact⟨i+1,by omega,by omega,e⟩
  | none=>
   rw[e] at h
   obtain⟨t,h1,h2,h3⟩:=vc (k:=k) (i:=i+1) h
   exact⟨t,by omega,by omega,h3⟩
theorem y6{p:Str}{kn:Nat→Option Nm}:∀(r:List Str)(i j:Nat)(u:Option Nm),∀l∈oB p kn i j u r,∀m,l.up=some m∨l.lo=some m→(u=some m∨∃t,kn t=some m)∨m∈(oB p kn i j u r).map (·.nm)
 | [],_,_,_,l,hl,_,_=>by cases hl
 | t::r,i,j,u,l,hl,m,hm=>by
  unfold oB at hl ⊢
  cases h:kn i with
  | some m'=>
   rw[h] at hl
   rcases y6 r (i+1) j (some m') l hl m hm with(z|z)|z
   ·exact .inl (.inr ⟨i,by rw[h];exact z⟩)
   ·exact .inl (.inr z)
   ·exact .inr z
  | none=>
   rw[h] at hl
   rcases W3.mp hl with rfl|hl
   ·rcases hm with hm|hm
    ·exact .inl (.inl hm)
    ·obtain⟨t,_,_,e⟩:=vc hm
     exact .inl (.inr ⟨t,e⟩)
   ·rcases y6 r (i+1) (j+1) (some (p,j)) l hl m hm with(z|z)|z
    ·cases z
     exact .inr (by rw[aav];exact aat)
    ·exact .inl (.inr z)
    ·exact .inr (aad _ z)
noncomputable def J9(rk:Nm→Nat)(kn:Nat→Option Nm):Nat→Nat
 | 0=>0
 | i+1=>match kn i with|some m=>rk m+1|none=>J9 rk kn i
noncomputable def We(kn:Nat→Option Nm)(n j:Nat):Nat:=(((List.range n).filter fun k=>(kn k).isNone)[j]?).getD 0
noncomputable def FZ(rk:Nm→Nat)(kn:Nat→Option Nm)(p:Str)(n:Nat)(x:Nm):Nat:=if x.1=p then J9 rk kn (We kn n x.2)*(n+1)+x.2+1 else(rk x+1)*(n+1)
theorem J_{rk:Nm→Nat}{kn:Nat→Option Nm}(hk:∀s t a b,kn s=some a→kn t=some b→s<t→rk a<rk b):∀i t b,kn t=some b→i≤t→J9 rk kn i≤rk b
 | 0,_,_,_,_=>aaI _
 | i+1,t,b,h,hi=>by
  unfold J9
  cases e:kn i with
  | some m=>exact hk i t m b e h (by omega)
  | none=>exact J_ hk i t b h (by omega)
theorem O1{kn:Nat→Option Nm}{n i:Nat}(hi:i<n)(h:kn i=none):We kn n ((List.range i).filter fun k=>(kn k).isNone).length=i:=by
 unfold We
 have e:List.range n=List.range i++i::List.range' (i+1) (n-(i+1)):=by
  have h1:List.range n=List.range i++(List.range' i (n-i)):=by
   have:=List.range'_append_1 (s:=0) (m:=i) (n:=n-i)
   rw[Nat.zero_add,show i+(n-i)=n by omega] at this
   rw[abR,abR,this]
  rw[h1,show n-i=(n-(i+1))+1 by omega,acg]
 rw[e,aaF,aab (by simp[h]),aba (ZA _),Nat.sub_self]
 rfl
theorem CI{rk:Nm→Nat}{kn:Nat→Option Nm}{p:Str}{n:Nat}(hk:∀s t a b,kn s=some a→kn t=some b→s<t→rk a<rk b)(hp:∀s a,kn s=some a→a.1≠p) :
  ∀(r:List Str)(i j:Nat)(u:Option Nm),i+r.length=n→j=((List.range i).filter fun k=>(kn k).isNone).length→(∀m,u=some m→FZ rk kn p n m≤J9 rk kn i*(n+1)+j)→
   Rk (oB p kn i j u r) (FZ rk kn p n)
 | [],_,_,_,_,_,_=>fun l hl=>by cases hl
 | t::r,i,j,u,hn,hj,hu=>by
  rw[aae] at hn
  have NO:i<n:=by omega
  have IL:j≤i:=by rw[hj];exact aac (aaN _ _) (by rw[ace];exact ZA _)
  have e1:(List.range (i+1)).filter (fun k=>(kn k).isNone)=(List.range i).filter (fun k=>(kn k).isNone)++if(kn i).isNone then[i] else[]:=by
   rw[acm,aaF]
   congr 1
   cases h:(kn i).isNone<;>simp[h]
  unfold oB
  cases h:kn i with
  | some m=>
   refine CI hk hp r (i+1) j (some m) (by omega) (by rw[e1,h];simpa using hj) fun m' e=>?_
   cases e
   unfold FZ
   rw[aak (hp i m h),J9.eq_2,h]
   show(rk m+1)*(n+1)≤(rk m+1)*(n+1)+j
   omega
  | none=>
   have Qa:FZ rk kn p n (p,j)=J9 rk kn i*(n+1)+j+1:=by
    unfold FZ
    rw[aap rfl,hj,O1 NO h]
   have hb:J9 rk kn (i+1)=J9 rk kn i:=by rw[J9.eq_2,h]
   intro l hl
   rcases W3.mp hl with rfl|hl
   ·refine⟨fun m hm=>?_,fun m hm=>?_⟩
    ·have:=hu m hm
     show FZ rk kn p n m<FZ rk kn p n (p,j)
     omega
    ·obtain⟨t',Z6,W4,e⟩:=vc hm
     show FZ rk kn p n (p,j)<FZ rk kn p n m
     have hle:=J_ hk i t' m e (by omega)
     rw[Qa]
     unfold FZ
     rw[aak (hp t' m e)]
     have h1:J9 rk kn i*(n+1)≤rk m*(n+1):=Nat.mul_le_mul_right _ hle
     have h2:(rk m+1)*(n+1)=rk m*(n+1)+(n+1):=Nat.succ_mul _ _
     omega
   ·refine CI hk hp r (i+1) (j+1) (some (p,j)) (by omega) (by rw[e1,h,hj];simp) (fun m' e=>?_) l hl
    cases e
    rw[Qa,hb]
    omega
theorem Ka{rk:Nm→Nat}{kn:Nat→Option Nm}{p:Str}(hk:∀s t a b,kn s=some a→kn t=some b→s<t→rk a<rk b)(hp:∀s a,kn s=some a→a.1≠p)(texts:List Str):Rk (jD p texts kn) (FZ rk kn p texts.length):=
 CI hk hp texts 0 0 none (by omega) rfl fun m e=>by cases e
theorem Kb{rk:Nm→Nat}{kn:Nat→Option Nm}{p:Str}{n:Nat}{ls:List Ln}(r:Rk ls rk)(h:∀l∈ls,l.nm.1≠p∧∀m,l.up=some m∨l.lo=some m→m.1≠p):Rk ls (FZ rk kn p n):=by
 intro l hl
 obtain⟨h1,h2⟩:=h l hl
 have e:∀x:Nm,x.1≠p→FZ rk kn p n x=(rk x+1)*(n+1):=fun x hx=>by unfold FZ;rw[aak hx]
 refine⟨fun m hm=>?_,fun m hm=>?_⟩
 ·rw[e _ h1,e _ (h2 m (.inl hm))]
  exact Nat.mul_lt_mul_of_pos_right (Nat.succ_lt_succ ((r l hl).1 m hm)) (Nat.succ_pos _)
 ·rw[e _ h1,e _ (h2 m (.inr hm))]
  exact Nat.mul_lt_mul_of_pos_right (Nat.succ_lt_succ ((r l hl).2 m hm)) (Nat.succ_pos _)
theorem Et{xs ys:List Nat}(nd:xs.Nodup)(h:∀x∈xs,x∈ys):xs.length≤ys.length:=by
 have:=len_sub (xs:=xs.map fun k=>((Str.empty,k):Nm)) (ys:=ys.map fun k=>(Str.empty,k)) (List.pairwise_map.mpr (nd.imp fun h z=>h (aa4 Prod.snd z))) fun x hx=>by
  obtain⟨k,hk,rfl⟩:=List.mem_map.mp hx
  exact Wc (h k hk)
 rwa [Tj,Tj] at this
theorem zP{α:Type}(p:α→Bool):∀xs:List α,(xs.filter p).length+(xs.filter fun x=>!p x).length=xs.length
 | []=>rfl
 | x::r=>by
  have:=zP p r
  cases h:p x<;>simp[h]<;>omega
theorem G1{row:List Ln}{texts:List Str}{qs:List (Nat×Nat)}(h:FY row.length texts.length qs)(p:Str):(jD p texts (l8 row qs)).length+qs.length=texts.length:=by
 unfold jD
 rw[zO,←abR]
 have h2:=zP (fun k=>(l8 row qs k).isNone) (List.range texts.length)
 rw[ace] at h2
 have h3:((List.range texts.length).filter fun x=>!(l8 row qs x).isNone).length=qs.length:=by
  have nd:(qs.map (·.2)).Nodup:=List.pairwise_map.mpr (h.1.imp fun z e=>by omega)
  refine Nat.le_antisymm ?_ ?_
  ·have:=Et (xs:=(List.range texts.length).filter fun x=>!(l8 row qs x).isNone) (ys:=qs.map (·.2)) (List.nodup_range.sublist aaS) fun x hx=>by
    have h4:=(ZH.mp hx).2
    have h5:(l8 row qs x).isSome=true:=by cases e:l8 row qs x<;>simp[e] at h4 ⊢
    rw[CH h] at h5
    exact aaA h5
   rwa [Tj] at this
  ·have:=Et (xs:=qs.map (·.2)) (ys:=(List.range texts.length).filter fun x=>!(l8 row qs x).isNone) nd fun x hx=>by
    refine ZH.mpr ⟨List.mem_range.mpr ?_,?_⟩
    ·obtain⟨q,hq,rfl⟩:=List.mem_map.mp hx
     exact(h.2 q hq).2
    ·have h5:=CH h x
     rw[ZF hx] at h5
     cases e:l8 row qs x<;>simp[e] at h5 ⊢
   rwa [Tj] at this
 omega
structure Dk where
 made:List Pt
 iN:Str→List Str
 stores:List Str
 held:Str→List Str
noncomputable def named(p:Pt):List Nm:=p.i3++p.ir.flatMap fun l=>l.up.toList++l.lo.toList
noncomputable def iJ(p:Pt):List Str:=((named p).filter fun n=>n.1≠p.nm).map (·.1)++p.other.toList
noncomputable def oQ(nd:Str→List Str)(p:Pt):List Str:=(iJ p).flatMap fun y=>y::nd y
namespace Dk
noncomputable def names(D:Dk):List Str:=D.made.map (·.nm)
noncomputable def keep(D:Dk)(s:Str)(p:Pt):Dk:=⟨D.made++[p],fun x=>if x=p.nm then oQ D.iN p else D.iN x,D.stores,fun t=>if t=s then D.held s++[p.nm] else D.held t⟩
noncomputable def begin(D:Dk)(s:Str):Dk:=⟨D.made,D.iN,D.stores++[s],fun t=>if t=s then[] else D.held t⟩
noncomputable def iz(D:Dk)(s:Str):List Pt:=D.made.filter fun p=>p.nm∈D.held s
noncomputable def has(D:Dk)(s:Str):List Str:=D.names.filter fun x=>x∈D.held s
noncomputable def nB(D:Dk)(x:Str):List Str:=D.names.filter fun y=>y∈D.iN x
noncomputable def m_(D:Dk)(s x:Str):List Str:=(D.nB x++[x]).filter fun y=>y∉D.held s
noncomputable def take(D:Dk)(s x:Str):Dk:=⟨D.made,D.iN,D.stores,fun t=>if t=s then D.held s++D.m_ s x else D.held t⟩
noncomputable def drop(D:Dk)(s x:Str):Dk:=⟨D.made,D.iN,D.stores,fun t=>if t=s then(D.held s).filter (fun y=>y≠x) else D.held t⟩
noncomputable def row(D:Dk)(s f:Str):List Ln:=rowOf (Ah (gg (D.iz s) f)) (j_ (D.iz s) f)
noncomputable def uv(D:Dk)(s f:Str):List (Nat×Nat):=jv (Ah (gg (D.iz s) f)) (D.row s f)
theorem G2(D:Dk)(s:Str):D.has s=(D.iz s).map (·.nm):=by
 unfold has iz names
 rw[List.filter_map];rfl
end Dk
structure Inv(D:Dk):Prop where
 nd:D.names.Nodup
 Fq:∀p∈D.made,p.ir.map (·.nm)=(List.range p.ir.length).map fun j=>(p.nm,j)
 refs:∀p∈D.made,∀l∈p.ir,∀m,l.up=some m∨l.lo=some m→∃q∈D.made,q.file=p.file∧m∈q.ir.map (·.nm)∧(q.nm=p.nm∨q.nm∈D.iN p.nm)
 rank:∃rk,∀p∈D.made,Rk p.ir rk
 before:∀i p,D.made[i]?=some p→∀x∈D.iN p.nm,x∈(D.made.take i).map (·.nm)
 trans:∀x∈D.names,∀y∈D.iN x,∀z∈D.iN y,z∈D.iN x
 stN:D.stores.Nodup
 kF:∀s∈D.stores,∀x∈D.held s,x∈D.names∧∀y∈D.iN x,y∈D.held s
 vd:∀s∈D.stores,(D.held s).Nodup
theorem n5{p:Pt}(h:p.ir.map (·.nm)=(List.range p.ir.length).map fun j=>(p.nm,j)){m:Nm}(hm:m∈p.ir.map (·.nm)):m.1=p.nm:=by
 rw[h] at hm
 obtain⟨j,_,rfl⟩:=List.mem_map.mp hm
 rfl
theorem Ml{ps:List Pt}(nd:(ps.map (·.nm)).Nodup){p q:Pt}(hp:p∈ps)(hq:q∈ps)(e:p.nm=q.nm):p=q:=by
 induction ps with
 | nil=>cases hp
 | cons x r ih=>
  rw[aav,aaL] at nd
  rcases W3.mp hp with h1|h1
  ·rcases W3.mp hq with h2|h2
   ·rw[h1,h2]
   ·exact absurd (by rw[←h1,e];exact Wc h2) nd.1
  ·rcases W3.mp hq with h2|h2
   ·exact absurd (by rw[←h2,←e];exact Wc h1) nd.1
   ·exact ih nd.2 h1 h2
theorem F_{ps:List Pt}(nd:(ps.map (·.nm)).Nodup)(h:∀p∈ps,p.ir.map (·.nm)=(List.range p.ir.length).map fun j=>(p.nm,j)):((ps.flatMap (·.ir)).map (·.nm)).Nodup:=by
 induction ps with
 | nil=>exact aa6
 | cons x r ih=>
  rw[aav,aaL] at nd
  rw[aaJ,aar,aa0]
  refine⟨?_,ih nd.2 fun p hp=>h p (aad _ hp),fun a ha b hb e=>?_⟩
  ·rw[h x aat]
   exact List.pairwise_map.mpr (List.nodup_range.imp fun z e=>z (aa4 Prod.snd e))
  ·have e1:=n5 (h x aat) ha
   obtain⟨l,hl,rfl⟩:=List.mem_map.mp hb
   obtain⟨q,hq,hlq⟩:=aa5.mp hl
   have e2:=n5 (h q (aad _ hq)) (Wc hlq)
   exact nd.1 (by rw[←e1,e,e2];exact Wc hq)
theorem i4{ps:List Pt}{f:Str}{l:Ln}:l∈gg ps f↔∃p∈ps,p.file=some f∧l∈p.ir:=by
 unfold gg
 rw[aa5]
 constructor
 ·rintro⟨p,hp,hl⟩
  obtain⟨h1,h2⟩:=ZH.mp hp
  exact⟨p,h1,aaA h2,hl⟩
 ·rintro⟨p,h1,h2,hl⟩
  exact⟨p,ZH.mpr ⟨h1,ZF h2⟩,hl⟩
theorem ve(ps:List Pt)(f:Str):(gg ps f).Sublist (ps.flatMap (·.ir)):=by
 unfold gg
 have h:=aaS (p:=fun p:Pt=>decide (p.file=some f)) (l:=ps)
 generalize ps.filter _=qs at h
 induction h with
 | slnil=>exact aaH _
 | cons x _ ih=>rw[aaJ];exact ih.trans (aa3 _ _)
 | cons_cons x _ ih=>rw[aaJ,aaJ];exact(aaH _).append ih
namespace Inv
variable{D:Dk}
theorem kQ{s:Str}{p:Pt}:p∈D.iz s↔p∈D.made∧p.nm∈D.held s:=by
 unfold Dk.iz
 rw[ZH,aa2]
theorem y7(s:Str):(D.iz s).Sublist D.made:=aaS
theorem nodup(I:Inv D)(s f:Str):((gg (D.iz s) f).map (·.nm)).Nodup:=
 ((ve _ f).map _).nodup (F_ (((y7 s).map _).nodup I.nd) fun p hp=>I.Fq p (y7 s |>.subset hp))
theorem O2(I:Inv D)(s f:Str):((j_ (D.iz s) f).map (·.nm)).Nodup:=((j4 _ f).map _).nodup (I.nodup s f)
theorem closed(I:Inv D){s:Str}(hs:s∈D.stores)(f:Str):mZ (gg (D.iz s) f):=by
 have key:∀l∈gg (D.iz s) f,∀m,l.up=some m∨l.lo=some m→m∈(gg (D.iz s) f).map (·.nm):=fun l hl m hm=>by
  obtain⟨p,hp,hf,hl⟩:=i4.mp hl
  obtain⟨hp,hh⟩:=kQ.mp hp
  obtain⟨q,hq,e,W5,hn⟩:=I.refs p hp l hl m hm
  obtain⟨l',nS,rfl⟩:=List.mem_map.mp W5
  refine Wc (i4.mpr ⟨q,kQ.mpr ⟨hq,?_⟩,by rw[e];exact hf,nS⟩)
  rcases hn with hn|hn
  ·rw[hn];exact hh
  ·exact(I.kF s hs _ hh).2 _ hn
 exact fun l hl=>⟨fun m hm=>key l hl m (.inl hm),fun m hm=>key l hl m (.inr hm)⟩
theorem R3(I:Inv D)(s f:Str):J6 (gg (D.iz s) f):=by
 obtain⟨rk,h⟩:=I.rank
 refine⟨rk,fun l hl=>?_⟩
 obtain⟨p,hp,_,hl⟩:=i4.mp hl
 exact h p (kQ.mp hp).1 l hl
theorem rJ(I:Inv D)(s f:Str):(D.row s f).Perm (j_ (D.iz s) f):=by
 obtain⟨rk,r⟩:=I.R3 s f
 exact FX (rk:=rk) (fun m n z=>r.ah z) (I.O2 s f)
theorem vg(I:Inv D){s f:Str}{l:Ln}(h:l∈D.row s f):∃p∈D.iz s,p.file=some f∧l∈p.ir:=
 i4.mp ((j4 _ f).subset ((I.rJ s f).subset h))
theorem vj(I:Inv D)(s f:Str):(D.row s f).length≤(D.made.flatMap (·.ir)).length:=by
 rw[(I.rJ s f).length_eq]
 refine aac (j4 _ f).length_le (aac (ve _ f).length_le ?_)
 have h:=y7 (D:=D) s
 generalize D.iz s=qs at h
 generalize D.made=ms at h
 clear I
 induction h with
 | slnil=>exact ZA _
 | cons x _ ih=>rw[aaJ,ZD];omega
 | cons_cons x _ ih=>rw[aaJ,aaJ,ZD,ZD];omega
open Classical in
theorem chain{lt:Nm→Nm→Prop}{row:List Ln}(hq:jv lt row=[]):row.Pairwise fun a b=>lt a.nm b.nm:=by
 rw[abg]
 intro i j hi hj W6
 by_cases c:ltAt lt row i j
 ·obtain⟨a,b,ha,hb,z⟩:=c
  rw[Wd hi] at ha
  rw[Wd hj] at hb
  cases ha;cases hb
  exact z
 ·exfalso
  have:(i,j)∈jv lt row:=by
   unfold jv
   refine aa5.mpr ⟨i,List.mem_range.mpr hi,List.mem_map.mpr ⟨j,ZH.mpr ⟨List.mem_range'.mpr ⟨j-(i+1),by omega,by omega⟩,ZF c⟩,rfl⟩⟩
  rw[hq] at this
  cases this
theorem keep(I:Inv D){s:Str}{p:Pt}(hs:s∈D.stores)(fresh:p.nm∉D.names)(Fq:p.ir.map (·.nm)=(List.range p.ir.length).map fun j=>(p.nm,j))
  (refs:∀l∈p.ir,∀m,l.up=some m∨l.lo=some m→m∈p.ir.map (·.nm)∨∃q∈D.iz s,q.file=p.file∧m∈q.ir.map (·.nm))
  (i3:∀m∈p.i3,∃q∈D.iz s,m∈q.ir.map (·.nm)) (other:∀o,p.other=some o→o∈D.held s)
  (rank:∃rk,(∀q∈D.made,Rk q.ir rk)∧Rk p.ir rk):Inv (D.keep s p):=by
 have oy:∀x∈D.names,x≠p.nm:=fun x hx e=>fresh (e▸hx)
 have NR:∀q∈D.made,q.nm∈D.names:=fun q hq=>Wc hq
 have Q0:∀x,x≠p.nm→(D.keep s p).iN x=D.iN x:=fun x hx=>aak hx
 have U0:(D.keep s p).iN p.nm=oQ D.iN p:=aap rfl
 have W8:∀x∈iJ p,x∈D.held s:=fun x hx=>by
  unfold iJ at hx
  rcases W9.mp hx with hx|hx
  ·obtain⟨m,hm,rfl⟩:=List.mem_map.mp hx
   obtain⟨hm,hn⟩:=ZH.mp hm
   have hn:m.1≠p.nm:=aaA hn
   have fin:(∃q∈D.iz s,m∈q.ir.map (·.nm))→m.1∈D.held s:=fun⟨q,hq,W5⟩=>by
    obtain⟨h1,h2⟩:=kQ.mp hq
    rw[n5 (I.Fq q h1) W5];exact h2
   rcases W9.mp hm with hm|hm
   ·exact fin (i3 m hm)
   ·obtain⟨l,hl,hm⟩:=aa5.mp hm
    have LF:l.up=some m∨l.lo=some m:=by
     rcases W9.mp hm with hm|hm
     ·exact .inl (by simpa using hm)
     ·exact .inr (by simpa using hm)
    rcases refs l hl m LF with z|⟨q,hq,_,z⟩
    ·exact absurd (n5 Fq z) hn
    ·exact fin ⟨q,hq,z⟩
  ·exact other x (by simpa using hx)
 have nh:∀x∈oQ D.iN p,x∈D.held s:=fun x hx=>by
  obtain⟨y,hy,hx⟩:=aa5.mp hx
  rcases W3.mp hx with rfl|hx
  ·exact W8 _ hy
  ·exact(I.kF s hs y (W8 y hy)).2 x hx
 have nn:∀x∈oQ D.iN p,x∈D.names:=fun x hx=>(I.kF s hs x (nh x hx)).1
 have To:∀x∈D.names,∀y∈D.iN x,y∈D.names:=fun x hx y hy=>by
  obtain⟨q,hq,rfl⟩:=List.mem_map.mp hx
  obtain⟨i,hi⟩:=aaO.mp hq
  have:=I.before i q hi y hy
  exact(acd i D.made).map _ |>.subset this
 refine⟨?_,fun q hq=>?_,fun q hq l hl m hm=>?_,?_,fun i q hq x hx=>?_,fun x hx y hy z hz=>?_,I.stN,fun t ht x hx=>?_,fun t ht=>?_⟩
 ·show((D.made++[p]).map (·.nm)).Nodup
  rw[aar,aa0]
  exact⟨I.nd,by simp,fun a ha b hb e=>fresh (by simp at hb;rw[←hb,←e];exact ha)⟩
 ·rcases W9.mp hq with hq|hq
  ·exact I.Fq q hq
  ·rw[Tq.mp hq];exact Fq
 ·rcases W9.mp hq with hq|hq
  ·obtain⟨q',h1,h2,h3,h4⟩:=I.refs q hq l hl m hm
   refine⟨q',aal _ h1,h2,h3,h4.imp id fun z=>?_⟩
   rw[Q0 _ (oy _ (NR q hq))];exact z
  ·rw[Tq.mp hq] at hl ⊢
   rcases refs l hl m hm with z|⟨q',h1,h2,h3⟩
   ·exact⟨p,by show p∈D.made++[p];simp,rfl,z,.inl rfl⟩
   ·obtain⟨h4,h5⟩:=kQ.mp h1
    refine⟨q',aal _ h4,h2,h3,.inr ?_⟩
    rw[U0]
    have e:=n5 (I.Fq q' h4) h3
    refine aa5.mpr ⟨q'.nm,?_,aat⟩
    unfold iJ
    refine aal _ (List.mem_map.mpr ⟨m,ZH.mpr ⟨?_,ZF ?_⟩,e⟩)
    ·unfold named
     refine aaG _ (aa5.mpr ⟨l,hl,?_⟩)
     rcases hm with hm|hm
     ·exact aal _ (by rw[hm];simp)
     ·exact aaG _ (by rw[hm];simp)
    ·rw[e];exact oy _ (NR q' h4)
 ·obtain⟨rk,h1,h2⟩:=rank
  refine⟨rk,fun q hq=>?_⟩
  rcases W9.mp hq with hq|hq
  ·exact h1 q hq
  ·rw[Tq.mp hq];exact h2
 ·show x∈((D.made++[p]).take i).map (·.nm)
  have hq:(D.made++[p])[i]?=some q:=hq
  by_cases hi:i<D.made.length
  ·rw[abP hi] at hq
   rw[List.take_append_of_le_length (by omega)]
   rw[Q0 _ (oy _ (NR q (V_ hq)))] at hx
   exact I.before i q hq x hx
  ·have hl:=(List.getElem?_eq_some_iff.mp hq).1
   rw[ZD] at hl
   have hi:i=D.made.length:=by have:[p].length=1:=rfl;omega
   subst hi
   rw[aba (ZA _),Nat.sub_self] at hq
   cases hq
   rw[List.take_append_of_le_length (ZA _),aas]
   rw[U0] at hx
   exact nn x hx
 ·have hx:x∈(D.made++[p]).map (·.nm):=hx
  rw[aar] at hx
  rcases W9.mp hx with hx|hx
  ·rw[Q0 _ (oy x hx)] at hy ⊢
   rw[Q0 _ (oy y (To x hx y hy))] at hz
   exact I.trans x hx y hy z hz
  ·have hx:x=p.nm:=by simpa using hx
   rw[hx,U0] at hy ⊢
   rw[Q0 _ (oy y (nn y hy))] at hz
   obtain⟨w,hw,hy⟩:=aa5.mp hy
   refine aa5.mpr ⟨w,hw,aad _ ?_⟩
   rcases W3.mp hy with rfl|hy
   ·exact hz
   ·exact I.trans w (I.kF s hs w (W8 w hw)).1 y hy z hz
 ·have old:∀u∈D.stores,∀x∈D.held u,x∈(D.keep s p).names∧∀y∈(D.keep s p).iN x,y∈D.held u:=fun u hu x hx=>by
   obtain⟨h1,h2⟩:=I.kF u hu x hx
   refine⟨?_,fun y hy=>?_⟩
   ·show x∈(D.made++[p]).map (·.nm)
    rw[aar];exact aal _ h1
   ·rw[Q0 _ (oy x h1)] at hy
    exact h2 y hy
  have hx:x∈(if t=s then D.held s++[p.nm] else D.held t):=hx
  show x∈(D.keep s p).names∧∀y∈(D.keep s p).iN x,y∈(if t=s then D.held s++[p.nm] else D.held t)
  by_cases e:t=s
  ·rw[aap e] at hx ⊢
   rcases W9.mp hx with hx|hx
   ·obtain⟨h1,h2⟩:=old s hs x hx
    exact⟨h1,fun y hy=>aal _ (h2 y hy)⟩
   ·have hx:x=p.nm:=by simpa using hx
    rw[hx]
    refine⟨?_,fun y hy=>?_⟩
    ·show p.nm∈(D.made++[p]).map (·.nm)
     simp
    ·rw[U0] at hy
     exact aal _ (nh y hy)
  ·rw[aak e] at hx ⊢
   exact old t ht x hx
 ·show(if t=s then D.held s++[p.nm] else D.held t).Nodup
  by_cases e:t=s
  ·rw[aap e,aa0]
   exact⟨I.vd s hs,by simp,fun a ha b hb z=>fresh (by simp at hb;rw[←hb,←z];exact(I.kF s hs a ha).1)⟩
  ·rw[aak e];exact I.vd t ht
theorem record(I:Inv D){s f x:Str}(hs:s∈D.stores)(fresh:x∉D.names)(hq:D.uv s f=[])(texts:List Str):Inv (D.keep s (kc x f (D.row s f) texts)):=by
 obtain⟨rk,Qa⟩:=I.rank
 have rise:=pP ((D.row s f).map (·.tx)) texts
 rw[Tj] at rise
 have Tp:∀t m,l8 (D.row s f) (K01.kept ((D.row s f).map (·.tx)) texts) t=some m→∃q∈D.iz s,q.file=some f∧m∈q.ir.map (·.nm):=fun t m h=>by
  obtain⟨q,_,_,l,hl,rfl⟩:=uu h
  obtain⟨p,h1,h2,h3⟩:=I.vg (V_ hl)
  exact⟨p,h1,h2,Wc h3⟩
 have own:∀q∈D.made,∀m∈q.ir.map (·.nm),m.1≠x:=fun q hq m hm e=>fresh (by rw[←e,n5 (I.Fq q hq) hm];exact Wc hq)
 have ch:(D.row s f).Pairwise fun a b=>rk a.nm<rk b.nm:=by
  have tr:Rk (gg (D.iz s) f) rk:=fun l hl=>by
   obtain⟨p,hp,_,hl⟩:=i4.mp hl
   exact Qa p (kQ.mp hp).1 l hl
  exact(chain hq).imp fun z=>tr.ah z
 refine I.keep hs fresh ?_ (fun l hl m hm=>?_) (fun m hm=>?_) (fun o ho=>by cases ho) ⟨FZ rk (l8 (D.row s f) (K01.kept ((D.row s f).map (·.tx)) texts)) x texts.length,fun q hq=>?_,?_⟩
 ·show(jD x texts _).map (·.nm)=(List.range (jD x texts _).length).map fun j=>(x,j)
  unfold jD
  rw[rH,←abR]
 ·rcases y6 texts 0 0 none l hl m hm with(z|⟨t,z⟩)|z
  ·cases z
  ·exact .inr (Tp t m z)
  ·exact .inl z
 ·obtain⟨l,hl,rfl⟩:=List.mem_map.mp hm
  obtain⟨p,h1,_,h3⟩:=I.vg (ZH.mp hl).1
  exact⟨p,h1,Wc h3⟩
 ·refine Kb (Qa q hq) fun l hl=>⟨own q hq _ (Wc hl),fun m hm=>?_⟩
  obtain⟨q',h1,_,h3,_⟩:=I.refs q hq l hl m hm
  exact own q' h1 m h3
 ·refine Ka (fun a b c d h1 h2 h3=>Mj rise ch h1 h2 h3) (fun t m h=>?_) texts
  obtain⟨q,h1,_,h3⟩:=Tp t m h
  exact own q (kQ.mp h1).1 m h3
theorem cut(I:Inv D){s f x:Str}(hs:s∈D.stores)(fresh:x∉D.names){ms:List Nm}(hm:∀m∈ms,m∈(D.row s f).map (·.nm)):Inv (D.keep s ⟨x,some f,[],ms,none⟩):=by
 refine I.keep hs fresh rfl (fun l hl=>by cases hl) (fun m h=>?_) (fun o ho=>by cases ho) ?_
 ·obtain⟨l,hl,rfl⟩:=List.mem_map.mp (hm m h)
  obtain⟨p,h1,_,h3⟩:=I.vg hl
  exact⟨p,h1,Wc h3⟩
 ·obtain⟨rk,h⟩:=I.rank
  exact⟨rk,h,fun l hl=>by cases hl⟩
theorem back(I:Inv D){s x o:Str}(hs:s∈D.stores)(fresh:x∉D.names)(ho:o∈D.held s):Inv (D.keep s ⟨x,none,[],[],some o⟩):=by
 refine I.keep hs fresh rfl (fun l hl=>by cases hl) (fun m h=>by cases h) (fun o' h=>by cases h;exact ho) ?_
 obtain⟨rk,h⟩:=I.rank
 exact⟨rk,h,fun l hl=>by cases hl⟩
theorem BP(I:Inv D){x:Str}(hx:x∈D.names):x∉D.iN x:=fun h=>by
 obtain⟨q,hq,rfl⟩:=List.mem_map.mp hx
 obtain⟨i,hi⟩:=aaO.mp hq
 have h1:=I.before i q hi _ h
 rw[List.map_take] at h1
 obtain⟨j,hj⟩:=aaO.mp h1
 have IL:j<i:=by have:=(List.getElem?_eq_some_iff.mp hj).1;rw[aaD] at this;omega
 rw[abN,aap IL] at hj
 have e3:(D.made.map (·.nm))[i]?=some q.nm:=by rw[aam,hi];rfl
 have:=(abF (List.getElem?_eq_some_iff.mp hj).1 I.nd).mp (hj.trans e3.symm)
 omega
theorem y8(I:Inv D){x y:Str}(hx:x∈D.names)(hy:y∈D.iN x):y∈D.names:=by
 obtain⟨q,hq,rfl⟩:=List.mem_map.mp hx
 obtain⟨i,hi⟩:=aaO.mp hq
 exact(acd i D.made).map _ |>.subset (I.before i q hi y hy)
theorem take(I:Inv D){s x:Str}(hs:s∈D.stores)(hx:x∈D.names):Inv (D.take s x):=by
 have cm:∀y∈D.m_ s x,(y=x∨y∈D.iN x)∧y∉D.held s:=fun y hy=>by
  obtain⟨h1,h2⟩:=ZH.mp hy
  refine⟨?_,aaA h2⟩
  rcases W9.mp h1 with h|h
  ·exact .inr (aaA (ZH.mp h).2)
  ·exact .inl (by simpa using h)
 have Z7:∀y,y=x∨y∈D.iN x→y∈D.held s++D.m_ s x:=fun y hy=>by
  by_cases h:y∈D.held s
  ·exact aal _ h
  ·refine aaG _ (ZH.mpr ⟨?_,ZF h⟩)
   rcases hy with rfl|hy
   ·simp
   ·exact aal _ (ZH.mpr ⟨I.y8 hx hy,ZF hy⟩)
 refine⟨I.nd,I.Fq,I.refs,I.rank,I.before,I.trans,I.stN,fun t ht z hz=>?_,fun t ht=>?_⟩
 ·have hz:z∈(if t=s then D.held s++D.m_ s x else D.held t):=hz
  show z∈D.names∧∀y∈D.iN z,y∈(if t=s then D.held s++D.m_ s x else D.held t)
  by_cases e:t=s
  ·rw[aap e] at hz ⊢
   rcases W9.mp hz with hz|hz
   ·obtain⟨h1,h2⟩:=I.kF s hs z hz
    exact⟨h1,fun y hy=>aal _ (h2 y hy)⟩
   ·obtain⟨h1,_⟩:=cm z hz
    rcases h1 with rfl|h1
    ·exact⟨hx,fun y hy=>Z7 y (.inr hy)⟩
    ·exact⟨I.y8 hx h1,fun y hy=>Z7 y (.inr (I.trans x hx z h1 y hy))⟩
  ·rw[aak e] at hz ⊢
   exact I.kF t ht z hz
 ·show(if t=s then D.held s++D.m_ s x else D.held t).Nodup
  by_cases e:t=s
  ·rw[aap e,aa0]
   refine⟨I.vd s hs,?_,fun a ha b hb z=>(cm b hb).2 (z▸ha)⟩
   refine ab7 aaS ?_
   rw[aa0]
   refine⟨ab7 aaS I.nd,by simp,fun a ha b hb z=>?_⟩
   rw[Tq.mp hb] at z
   subst z
   exact I.BP hx (aaA (ZH.mp ha).2)
  ·rw[aak e];exact I.vd t ht
theorem drop(I:Inv D){s x:Str}(hs:s∈D.stores)(hx:∀z∈D.held s,x∉D.iN z):Inv (D.drop s x):=by
 refine⟨I.nd,I.Fq,I.refs,I.rank,I.before,I.trans,I.stN,fun t ht z hz=>?_,fun t ht=>?_⟩
 ·have hz:z∈(if t=s then(D.held s).filter (fun y=>y≠x) else D.held t):=hz
  show z∈D.names∧∀y∈D.iN z,y∈(if t=s then(D.held s).filter (fun y=>y≠x) else D.held t)
  by_cases e:t=s
  ·rw[aap e] at hz ⊢
   have hz:=(ZH.mp hz).1
   obtain⟨h1,h2⟩:=I.kF s hs z hz
   exact⟨h1,fun y hy=>ZH.mpr ⟨h2 y hy,ZF fun e=>hx z hz (e▸hy)⟩⟩
  ·rw[aak e] at hz ⊢
   exact I.kF t ht z hz
 ·show(if t=s then(D.held s).filter (fun y=>y≠x) else D.held t).Nodup
  by_cases e:t=s
  ·rw[aap e];exact ab7 aaS (I.vd s hs)
  ·rw[aak e];exact I.vd t ht
theorem begin(I:Inv D){s:Str}(hs:s∉D.stores):Inv (D.begin s):=by
 refine⟨I.nd,I.Fq,I.refs,I.rank,I.before,I.trans,?_,fun t ht z hz=>?_,fun t ht=>?_⟩
 ·show(D.stores++[s]).Nodup
  rw[aa0]
  exact⟨I.stN,by simp,fun a ha b hb e=>hs (by rw[←Tq.mp hb,←e];exact ha)⟩
 ·have hz:z∈(if t=s then[] else D.held t):=hz
  show z∈D.names∧∀y∈D.iN z,y∈(if t=s then[] else D.held t)
  by_cases e:t=s
  ·rw[aap e] at hz;cases hz
  ·rw[aak e] at hz ⊢
   rcases W9.mp ht with ht|ht
   ·exact I.kF t ht z hz
   ·exact absurd (Tq.mp ht) e
 ·show(if t=s then[] else D.held t).Nodup
  by_cases e:t=s
  ·rw[aap e];exact aa6
  ·rw[aak e]
   rcases W9.mp ht with ht|ht
   ·exact I.vd t ht
   ·exact absurd (Tq.mp ht) e
theorem BQ(I:Inv D){s x:Str}{xs:List Str}(hs:s∈D.stores)(h:D.has s=xs++[x]):∀z∈D.held s,x∉D.iN z:=by
 intro z hz hx
 obtain⟨Ld,_⟩:=I.kF s hs z hz
 obtain⟨q,hq,rfl⟩:=List.mem_map.mp Ld
 obtain⟨i,hi⟩:=aaO.mp hq
 have h1:=I.before i q hi x hx
 have e:D.names=(D.made.take i).map (·.nm)++q.nm::(D.made.drop (i+1)).map (·.nm):=by
  have Bt:=(List.getElem?_eq_some_iff.mp hi).1
  unfold Dk.names
  conv=>lhs;rw[←aby i D.made,aaQ Bt,(List.getElem?_eq_some_iff.mp hi).2]
  rw[aar,aav]
 have hn:=I.nd
 rw[e,aa0,aaL] at hn
 unfold Dk.has at h
 rw[e,aaF,aab (p:=fun y=>decide (y∈D.held s)) (ZF hz)] at h
 have hl:x∈q.nm::((D.made.drop (i+1)).map (·.nm)).filter fun y=>decide (y∈D.held s):=by
  have h2:=aa4 List.getLast? h
  rw[List.getLast?_append,List.getLast?_append] at h2
  have h3:(q.nm::((D.made.drop (i+1)).map (·.nm)).filter fun y=>decide (y∈D.held s)).getLast?=some x:=by
   cases e4:(q.nm::((D.made.drop (i+1)).map (·.nm)).filter fun y=>decide (y∈D.held s)).getLast? with
   | none=>simp at e4
   | some y=>rw[e4] at h2;simpa using h2
  exact List.mem_of_getLast? h3
 have nS:x∈q.nm::(D.made.drop (i+1)).map (·.nm):=by
  rcases W3.mp hl with z|z
  ·rw[z];exact aat
  ·exact aad _ (ZH.mp z).1
 exact hn.2.2 x h1 x nS rfl
end Inv
end PM
namespace PK
open PySem L2
set_option genInjectivity false
set_option genSizeOf false
set_option genSizeOfSpec false
noncomputable def top(i:Nat):Stmt:=PySem.Challenge.pw_patchkin_k11_whole_there_and_back.main.body.getD i (.Pass ⟨0,0,0,0⟩)
noncomputable section
noncomputable abbrev nL(l:List Str):List Str:=l
abbrev pj:=top 2
abbrev qo:=top 3
abbrev qp:=top 4
abbrev Ga:=top 5
noncomputable abbrev nc:=inClass (top 17) 0
noncomputable abbrev mq:=inClass (top 18) 0
abbrev kR:=top 19
abbrev jQ:=top 20
abbrev n6:=top 21
abbrev rK:=top 22
abbrev kS:=top 23
abbrev n9:=top 24
abbrev mr:=top 25
abbrev zQ:=top 26
abbrev oR:=top 27
abbrev qt:=top 28
abbrev vk:=top 29
noncomputable abbrev mv:=inClass (top 30) 0
noncomputable abbrev mw:=inClass (top 30) 1
noncomputable abbrev kX:=inClass (top 30) 2
abbrev qv:=top 34
abbrev n_:=top 35
abbrev pk:=top 36
abbrev rL:=top 37
abbrev jU:=top 38
noncomputable abbrev ni:=inClass (top 39) 0
noncomputable abbrev qw:=inClass (top 39) 1
noncomputable abbrev tN:=inClass (top 39) 2
noncomputable abbrev rM:=inClass (top 39) 3
noncomputable abbrev qx:=inClass (top 39) 4
noncomputable abbrev mE:=inClass (top 39) 5
noncomputable abbrev qy:=inClass (top 39) 6
noncomputable abbrev rN:=inClass (top 39) 7
noncomputable abbrev oS:=inClass (top 39) 8
noncomputable abbrev rO:=inClass (top 39) 9
noncomputable abbrev nM:=inClass (top 39) 10
noncomputable abbrev vp:=inClass (top 39) 12
noncomputable abbrev qz:=inClass (top 39) 13
noncomputable abbrev nj:=inClass (top 39) 14
noncomputable abbrev ky:=inClass (top 39) 16
noncomputable abbrev nq:=inClass (top 39) 17
noncomputable abbrev lq:=inClass (top 39) 18
noncomputable abbrev lO:=inClass (top 39) 19
noncomputable abbrev lP:=inClass (top 39) 20
noncomputable abbrev mx:=inClass (top 39) 21
noncomputable abbrev rP:=inClass (top 39) 22
abbrev oe:=top 41
abbrev rQ:=top 42
abbrev rR:=top 43
abbrev oT:=top 44
abbrev rS:=top 45
abbrev oU:=top 46
abbrev mO:=top 47
abbrev qA:=top 48
abbrev nr:=top 49
abbrev lQ:=top 50
abbrev oV:=top 51
abbrev mF:=top 52
abbrev G3:=top 53
abbrev yK:=nL ["self","name","text","upper_name","lower_name"]
theorem wR:gB yK ["self","name","text","upper_name","lower_name"] (gc nc):=mY
abbrev wU:=nL ["self","name","file","puts","cuts","other"]
theorem vq:gB wU ["self","name","file","puts","cuts","other"] (gc mq):=mY
noncomputable abbrev pQ:=nL ["patch","names","line","name"]
theorem kA:gB pQ ["patch"] (gc kR):=mY
abbrev nF:=nL ["patch","leant","name"]
theorem kG:gB nF ["patch"] (gc jQ):=mY
noncomputable abbrev zR:=nL ["patches","taken_back","live","patch"]
theorem lg:gB zR ["patches"] (gc n6):=mY
abbrev Eu:=nL ["patches","file","lines","patch"]
theorem qB:gB Eu ["patches","file"] (gc rK):=mY
noncomputable abbrev pR:=nL ["patches","file","live","gone","patch","name","line"]
theorem jh:gB pR ["patches","file"] (gc kS):=mY
abbrev wV:=nL ["lines","straight","line"]
theorem kB:gB wV ["lines"] (gc mr):=mY
noncomputable abbrev Kc:=nL ["names","ahead","found","name"]
theorem wW:gB Kc ["names","ahead"] (gc zQ):=mY
abbrev xO:=nL ["lines","straight","ahead","line","climb","name","missing","other"]
theorem jE:gB xO ["lines"] (gc oR):=mY
abbrev CJ:=nL ["waiting","name"]
theorem tO:gB CJ ["waiting"] (gc qt):=mY
abbrev Ew:=nL ["lines","ahead","by_name","waiting","line","row","name","other"]
theorem ly:gB Ew ["lines","ahead"] (gc vk):=mY
abbrev wX:=nL ["self","patches","file"]
theorem vt:gB wX ["self","patches","file"] (gc mv):=mY
abbrev wY:=nL ["self","first","second"]
theorem vw:gB wY ["self","first","second"] (gc mw):=mY
abbrev tG:=nL ["self","pairs","first","second"]
theorem jF:gB tG ["self"] (gc kX):=mY
abbrev CK:=nL ["name","sign"]
theorem tP:gB CK ["name"] (gc qv):=mY
abbrev zS:=nL ["places","size","least","place"]
theorem lh:gB zS ["places","size"] (gc n_):=mY
abbrev A7:=nL ["kept_names","size","behind","place"]
theorem og:gB A7 ["kept_names","size"] (gc pk):=mY
abbrev Ex:=nL ["patch","texts","kept_names","behind","lines","upper_name","place","text"]
theorem jG:gB Ex ["patch","texts","kept_names"] (gc rL):=mY
abbrev my:=nL ["patch","file","row","texts","kept_names","left","first","second","cuts","line"]
theorem iO:gB my ["patch","file","row","texts"] (gc jU):=mY
abbrev yL:=nL ["self"]
theorem wZ:gB yL ["self"] (gc ni):=mY
abbrev CL:=nL ["self","store"]
theorem A8:gB CL ["self","store"] (gc qw):=mY
abbrev zT:=nL ["self","store","name"]
theorem xP:gB zT ["self","store"] (gc qx):=mY
abbrev tQ:=nL ["self","store","patch","file","texts","sight","line"]
theorem oh:gB tQ ["self","store","patch","file","texts"] (gc mE):=mY
abbrev zU:=nL ["self","store","patch","file","places","row","place"]
theorem rV:gB zU ["self","store","patch","file","places"] (gc qy):=mY
abbrev Ey:=nL ["self","store","patch","other"]
theorem CM:gB Ey ["self","store","patch","other"] (gc rN):=mY
noncomputable abbrev xQ:=nL ["self","store","source","patch","wanted","came","name"]
theorem lR:gB xQ ["self","store","source","patch"] (gc oS):=mY
abbrev Ez:=nL ["self","store","patch","name"]
theorem vy:gB Ez ["self","store","patch"] (gc rO):=mY
abbrev vz:=nL ["self","patch","name"]
theorem tR:gB vz ["self","patch"] (gc nM):=mY
abbrev zV:=nL ["self","store","file","line"]
theorem xR:gB zV ["self","store","file"] (gc qz):=mY
abbrev yM:=nL ["self","store","file"]
theorem w9:gB yM ["self","store","file"] (gc nj):=mY
abbrev oW:=nL ["self","store","name"]
theorem oj:gB oW ["self","store"] (gc ky):=mY
abbrev yN:=nL ["self","store","file"]
theorem w_:gB yN ["self","store","file"] (gc nq):=mY
abbrev uw:=nL ["self","store"]
theorem tH:gB uw ["self","store"] (gc lq):=mY
abbrev vA:=nL ["self","patch"]
theorem ux:gB vA ["self","patch"] (gc lO):=mY
abbrev vB:=nL ["self","store","patch"]
theorem uy:gB vB ["self","store","patch"] (gc lP):=mY
abbrev xc:=nL ["self","patch","files","name"]
theorem oX:gB xc ["self","patch","files"] (gc mx):=mY
abbrev EA:=nL ["self","store","patch","needs","name"]
theorem qC:gB EA ["self","store","patch"] (gc rP):=mY
abbrev zW:=nL ["script","k"]
theorem yO:gB zW ["script","k"] (gc oe):=mY
abbrev EB:=nL ["cell","k","bound","stir"]
theorem qD:gB EB ["cell","k","bound"] (gc rQ):=mY
abbrev EC:=nL ["cell","k","signs","size","base","far","found","j"]
theorem jk:gB EC ["cell","k"] (gc rR):=mY
abbrev xS:=nL ["cell","signs","size","j"]
theorem lS:gB xS ["cell"] (gc oT):=mY
abbrev ED:=nL ["texts","cell","at","line","more","way","out","turned"]
theorem j5:gB ED ["texts","cell"] (gc rS):=mY
noncomputable abbrev xT:=nL ["desk","stores","files","cell","name","backs","store","file","way","more","row","source","names","line"]
theorem jl:gB xT ["desk","stores","files","cell","name","backs"] (gc oU):=mY
abbrev rW:=nL ["script","first","most","backs","desk","stores","files","store","k","cell"]
theorem jc:gB rW ["script","first","most","backs"] (gc mO):=mY
abbrev CN:=nL ["found"]
theorem A9:gB CN ["found"] (gc qA):=mY
abbrev yP:=nL ["row","line"]
theorem pS:gB yP ["row"] (gc nr):=mY
abbrev vC:=nL ["found","pair"]
theorem om:gB vC ["found"] (gc lQ):=mY
abbrev xU:=nL ["desk","store","files","file"]
theorem vD:gB xU ["desk","store","files"] (gc oV):=mY
abbrev tS:=nL ["desk","store","file","name","cell","row","line"]
theorem oq:gB tS ["desk","store","file","name","cell"] (gc mF):=mY
noncomputable abbrev Nv:=nL ["script","built","desk","store","other","names","at","name","first","theirs","one","changed","early","k"]
theorem lr:gB Nv ["script"] (gc G3):=mY
structure Txt(mg:Qqx):Prop where
 jH:mg "len"=none
 lT:mg "range"=none
 R4:mg "max"=none
 jI:mg "isinstance"=none
 R5:mg "int"=none
 O3:mg "bool"=none
 zX:mg "list"=none
 G4:mg "tuple"=none
 Nx:mg "str"=none
 zY:mg "reversed"=none
 R6:mg "sorted"=none
 ZI:mg "set"=none
 EE:mg "enumerate"=none
 Mm:mg "ValueError"=none
structure Ad where
 A_:Addr
 Ba:FuncData
 CO:Addr
 CP:FuncData
 CQ:Addr
 CS:FuncData
 Kd:Addr
 Ke:FuncData
 nu:Addr
 qT:FuncData
 mz:Addr
 pT:FuncData
 pU:Addr
 pV:FuncData
 nG:Addr
 nH:FuncData
 rX:Addr
 rY:FuncData
 xV:Addr
 xW:FuncData
 pW:Addr
 pX:FuncData
 uA:Addr
 uB:FuncData
 pY:Addr
 pZ:FuncData
 EF:Addr
 EG:FuncData
 xX:Addr
 xY:FuncData
 vE:Addr
 vF:FuncData
 EH:Addr
 EI:FuncData
 mB:Addr
 p0:FuncData
 p3:Addr
 p5:FuncData
 nI:Addr
 nJ:FuncData
 vG:Addr
 vH:FuncData
 rZ:Addr
 r9:FuncData
 tT:Addr
 tU:FuncData
 xZ:Addr
 x8:FuncData
 p6:Addr
 p7:FuncData
 nv:Addr
 qU:FuncData
 vI:Addr
 vJ:FuncData
 Bb:Addr
 Bc:FuncData
 zZ:Addr
 z8:FuncData
 z_:Addr
 Aa:FuncData
 tV:Addr
 tW:FuncData
 Ab:Addr
 Ac:FuncData
 x9:Addr
 x_:FuncData
 ya:Addr
 yb:FuncData
 yc:Addr
 yd:FuncData
 vK:Addr
 vL:FuncData
 CT:Addr
 CU:FuncData
 Ae:Addr
 Af:FuncData
 qV:Addr
 qW:FuncData
 oY:Addr
 oZ:FuncData
 qX:Addr
 qY:FuncData
 ou:Addr
 ow:FuncData
 o3:Addr
 o4:FuncData
 o5:Addr
 o6:FuncData
 p8:Addr
 p9:FuncData
 ye:Addr
 yf:FuncData
 r_:Addr
 sd:FuncData
 yg:Addr
 yh:FuncData
 yi:Addr
 yj:FuncData
 yk:Addr
 yl:FuncData
 ym:Addr
 yp:FuncData
 yq:Addr
 yr:FuncData
 yt:Addr
 yu:FuncData
 vM:Addr
 vN:FuncData
 qZ:Addr
 q8:FuncData
 o7:Addr
 o8:FuncData
 yv:Addr
 yw:FuncData
 tX:Addr
 tY:FuncData
 hU:Addr
 hV:Addr
 ie:Addr
 gq:Addr
 lU:Addr
 jA:Addr
 jr:Addr
 iU:Addr
 jV:Addr
 ox:Addr
 lA:Addr
 uC:Addr
 sY:Addr
 nN:Tok
 lV:Tok
 z:Unit
structure Ok(K:Qqy)(mg:Qqx)(A:Ad):Prop where
 se:DF K mg "counts_with" pj A.A_ A.Ba ["text","new","below"]
 uD:DF K mg "most_pairs" qo A.CO A.CP ["old","new"]
 uE:DF K mg "place_from" qp A.CQ A.CS ["texts","text","start"]
 kept:DF K mg "kept" Ga A.Kd A.Ke ["old","new"]
 tZ:DM K A.hU "__init__" "Line.__init__" nc A.nu A.qT ["self","name","text","upper_name","lower_name"]
 lW:DM K A.hV "__init__" "Patch.__init__" mq A.mz A.pT ["self","name","file","puts","cuts","other"]
 si:DF K mg "lines_named_by" kR A.pU A.pV ["patch"]
 o9:DF K mg "leans_straight_on" jQ A.nG A.nH ["patch"]
 vO:DF K mg "live_patches" n6 A.rX A.rY ["patches"]
 xf:DF K mg "lines_put" rK A.xV A.xW ["patches","file"]
 sj:DF K mg "standing_lines" kS A.pW A.pX ["patches","file"]
 Ie:DF K mg "files_with_lines" n9 A.uA A.uB ["patches"]
 sr:DF K mg "straight_ahead" mr A.pY A.pZ ["lines"]
 joined:DF K mg "joined" zQ A.EF A.EG ["names","ahead"]
 BR:DF K mg "all_ahead" oR A.xX A.xY ["lines"]
 Ag:DF K mg "first_free" qt A.vE A.vF ["waiting"]
 Kf:DF K mg "row_of" vk A.EH A.EI ["lines","ahead"]
 su:DM K A.ie "__init__" "Sight.__init__" mv A.mB A.p0 ["self","patches","file"]
 sv:DM K A.ie "is_ahead" "Sight.is_ahead" mw A.p3 A.p5 ["self","first","second"]
 jJ:DM K A.ie "quarrelling" "Sight.quarrelling" kX A.nI A.nJ ["self"]
 uF:DF K mg "check_name" qv A.vG A.vH ["name"]
 vP:DF K mg "check_places" n_ A.rZ A.r9 ["places","size"]
 yx:DF K mg "kept_behind" pk A.tT A.tU ["kept_names","size"]
 BS:DF K mg "new_lines" rL A.xZ A.x8 ["patch","texts","kept_names"]
 sx:DF K mg "changing_patch" jU A.p6 A.p7 ["patch","file","row","texts"]
 t_:DM K A.gq "__init__" "Desk.__init__" ni A.nv A.qU ["self"]
 Ai:DM K A.gq "begin" "Desk.begin" qw A.vI A.vJ ["self","store"]
 Ny:DM K A.gq "stores" "Desk.stores" tN A.Bb A.Bc ["self"]
 Mn:DM K A.gq "patches" "Desk.patches" rM A.zZ A.z8 ["self"]
 lX:DM K A.gq "has" "Desk.has" qx A.z_ A.Aa ["self","store"]
 sy:DM K A.gq "record" "Desk.record" mE A.tV A.tW ["self","store","patch","file","texts"]
 Aj:DM K A.gq "cut" "Desk.cut" qy A.Ab A.Ac ["self","store","patch","file","places"]
 p_:DM K A.gq "back" "Desk.back" rN A.x9 A.x_ ["self","store","patch","other"]
 sZ:DM K A.gq "take" "Desk.take" oS A.ya A.yb ["self","store","source","patch"]
 BU:DM K A.gq "drop" "Desk.drop" rO A.yc A.yd ["self","store","patch"]
 Ak:DM K A.gq "leans" "Desk.leans" nM A.vK A.vL ["self","patch"]
 O4:DM K A.gq "files" "Desk.files" vp A.CT A.CU ["self","store"]
 vQ:DM K A.gq "row" "Desk.row" qz A.Ae A.Af ["self","store","file"]
 mG:DM K A.gq "quarrels" "Desk.quarrels" nj A.qV A.qW ["self","store","file"]
 q9:DM K A.gq "patches_of" "Desk.patches_of" ky A.oY A.oZ ["self","store"]
 k7:DM K A.gq "sight_of" "Desk.sight_of" nq A.qX A.qY ["self","store","file"]
 iV:DM K A.gq "check_store" "Desk.check_store" lq A.ou A.ow ["self","store"]
 q_:DM K A.gq "check_made" "Desk.check_made" lO A.o3 A.o4 ["self","patch"]
 lj:DM K A.gq "check_held" "Desk.check_held" lP A.o5 A.o6 ["self","store","patch"]
 lY:DM K A.gq "check_new" "Desk.check_new" mx A.p8 A.p9 ["self","patch","files"]
 s_:DM K A.gq "keep" "Desk.keep" rP A.ye A.yf ["self","store","patch"]
 iA:DF K mg "_law_cell_at" oe A.r_ A.sd ["script","k"]
 BV:DF K mg "_law_draw" rQ A.yg A.yh ["cell","k","bound"]
 qa:DF K mg "_law_name" rR A.yi A.yj ["cell","k"]
 xg:DF K mg "_law_text" oT A.yk A.yl ["cell"]
 xh:DF K mg "_law_edit" rS A.ym A.yp ["texts","cell"]
 BW:DF K mg "_law_deed" oU A.yq A.yr ["desk","stores","files","cell","name","backs"]
 BX:DF K mg "_law_desk" mO A.yt A.yu ["script","first","most","backs"]
 qE:DF K mg "_law_whole" qA A.vM A.vN ["found"]
 ua:DF K mg "_law_row_form" nr A.qZ A.q8 ["row"]
 rf:DF K mg "_law_pairs_form" lQ A.o7 A.o8 ["found"]
 kT:DF K mg "_law_seen" oV A.yv A.yw ["desk","store","files"]
 sA:DF K mg "_law_change" mF A.tX A.tY ["desk","store","file","name","cell"]
 iQ:Fo K A.hU
 O5:Mk K A.hU A.nu
 O6:mg "Line"=some (.ref A.hU)
 hG:jR K A.hU "name"
 jK:jR K A.hU "text"
 iK:jR K A.hU "upper_name"
 iL:jR K A.hU "lower_name"
 jm:Fo K A.hV
 CV:Mk K A.hV A.mz
 CW:mg "Patch"=some (.ref A.hV)
 iZ:jR K A.hV "name"
 kl:jR K A.hV "file"
 jM:jR K A.hV "puts"
 jN:jR K A.hV "cuts"
 i5:jR K A.hV "other"
 j6:Fo K A.ie
 Mo:Mk K A.ie A.mB
 Mp:mg "Sight"=some (.ref A.ie)
 jw:jR K A.ie "ahead"
 iu:jR K A.ie "lines"
 gC:Fo K A.gq
 O7:Mk K A.gq A.nv
 O8:mg "Desk"=some (.ref A.gq)
 i6:jR K A.gq "made"
 jd:jR K A.gq "needs"
 iB:jR K A.gq "held"
 Mq:Exc K mg "PatchError" A.lU
 BY:Exc K mg "BadName" A.jA
 yy:Exc K mg "NameTaken" A.jr
 Ig:Exc K mg "NoStore" A.iU
 BZ:Exc K mg "NoPatch" A.jV
 Kg:Exc K mg "NoLine" A.ox
 EJ:Exc K mg "Unsettled" A.lA
 Kh:Exc K mg "Same" A.uC
 Mr:Exc K mg "Leant" A.sY
 CY:mg "NAME_SIGNS"=some (.str (Str.ofString "abcdefghijklmnopqrstuvwxyz0123456789") A.nN)
 sC:mg "LONGEST_NAME"=some (.int 12 A.lV)
 z:True
end
open PySem L2 PM
noncomputable def nk(n:Nm):List Key:=[Sum.inr n.1,Sum.inl (n.2:Int)]
theorem pq{a b:Nm}(h:nk a=nk b):a=b:=by
 unfold nk at h
 injection h with h1 h2
 injection h2 with h2 _
 exact Prod.ext (aci h1) (by have:=Sum.inl.inj h2;omega)
noncomputable abbrev nT(n:Nm):HO:=.tup ((nk n).map kV)
def lF(H:Hp)(v:V)(n:Nm):Prop:=∃t,v=.ref t∧H t=some (nT n)
def Gb(H:Hp)(v:V):Option Nm→Prop
 | none=>v=.jo
 | some n=>lF H v n
def UK(v:V):Option Str→Prop
 | none=>v=.jo
 | some x=>v=.str x
noncomputable def Ms(a b c d:V):List (Str×V):=[("name",a),("text",b),("upper_name",c),("lower_name",d)]
theorem i7{a b c d:V}:(Ms a b c d).lookup ("name":Str)=some a:=by kernel_rfl
theorem Al{a b c d:V}:(Ms a b c d).lookup ("text":Str)=some b:=by kernel_rfl
theorem Gd{a b c d:V}:(Ms a b c d).lookup ("upper_name":Str)=some c:=by kernel_rfl
theorem Ge{a b c d:V}:(Ms a b c d).lookup ("lower_name":Str)=some d:=by kernel_rfl
noncomputable def Mt(a b c d e:V):List (Str×V):=[("name",a),("file",b),("puts",c),("cuts",d),("other",e)]
theorem sD{a b c d e:V}:(Mt a b c d e).lookup ("name":Str)=some a:=by kernel_rfl
theorem Ki{a b c d e:V}:(Mt a b c d e).lookup ("file":Str)=some b:=by kernel_rfl
theorem EK{a b c d e:V}:(Mt a b c d e).lookup ("puts":Str)=some c:=by kernel_rfl
theorem EL{a b c d e:V}:(Mt a b c d e).lookup ("cuts":Str)=some d:=by kernel_rfl
theorem tf{a b c d e:V}:(Mt a b c d e).lookup ("other":Str)=some e:=by kernel_rfl
def mQ(A:Ad)(H:Hp)(a:Addr)(l:Ln):Prop:=∃dx vn vu vl,H a=some (.ins A.hU dx (Ms vn (.str l.tx) vu vl))∧lF H vn l.nm∧Gb H vu l.up∧Gb H vl l.lo
def oC(A:Ad)(H:Hp)(a:Addr)(ls:List Ln):Prop:=∃as:List Addr,H a=some (.lst (as.map V.ref))∧Paired (mQ A H) as ls
def vR(H:Hp)(a:Addr)(ns:List Nm):Prop:=∃vs,H a=some (.lst vs)∧Paired (lF H) vs ns
def oE(A:Ad)(H:Hp)(a:Addr)(p:Pt):Prop:=∃dx vf pu cu vo,H a=some (.ins A.hV dx (Mt (.str p.nm) vf (.ref pu) (.ref cu) vo))∧UK vf p.file∧oC A H pu p.ir∧vR H cu p.i3∧UK vo p.other
def yQ(A:Ad)(H:Hp)(a:Addr)(ps:List Pt):Prop:=∃as:List Addr,H a=some (.lst (as.map V.ref))∧Paired (oE A H) as ps
section
variable{A:Ad}{H H':Hp}{a:Addr}
theorem lF.same{v:V}{n:Nm}(x:lF H v n)(s:gm H H'):lF H' v n:=by obtain⟨t,e,h⟩:=x;exact⟨t,e,s _ _ h⟩
theorem Gb.same{v:V}{o:Option Nm}(x:Gb H v o)(s:gm H H'):Gb H' v o:=by
 cases o with
 | none=>exact x
 | some n=>exact lF.same x s
theorem mQ.same{l:Ln}(x:mQ A H a l)(s:gm H H'):mQ A H' a l:=by
 obtain⟨dx,vn,vu,vl,h,h1,h2,h3⟩:=x
 exact⟨dx,vn,vu,vl,s _ _ h,h1.same s,h2.same s,h3.same s⟩
theorem oC.same{ls:List Ln}(x:oC A H a ls)(s:gm H H'):oC A H' a ls:=by
 obtain⟨as,h,p⟩:=x
 exact⟨as,s _ _ h,Paired.jZ p fun _ _ z=>z.same s⟩
theorem vR.same{ns:List Nm}(x:vR H a ns)(s:gm H H'):vR H' a ns:=by
 obtain⟨vs,h,p⟩:=x
 exact⟨vs,s _ _ h,Paired.jZ p fun _ _ z=>z.same s⟩
theorem oE.same{p:Pt}(x:oE A H a p)(s:gm H H'):oE A H' a p:=by
 obtain⟨dx,vf,pu,cu,vo,h,h1,h2,h3,h4⟩:=x
 exact⟨dx,vf,pu,cu,vo,s _ _ h,h1,h2.same s,h3.same s,h4⟩
theorem yQ.same{ps:List Pt}(x:yQ A H a ps)(s:gm H H'):yQ A H' a ps:=by
 obtain⟨as,h,p⟩:=x
 exact⟨as,s _ _ h,Paired.jZ p fun _ _ z=>z.same s⟩
end
theorem iw{α β:Type}{F:α→β→Prop}{xs:List α}{ys:List β}(p:Paired F xs ys):∀{i:Nat} {x:α},xs[i]?=some x→∃y,ys[i]?=some y∧F x y:=by
 induction p with
 | nil=>intro i x h;simp at h
 | cons f t ih=>
  intro i x h
  cases i with
  | zero=>simp at h;subst h;exact⟨_,rfl,f⟩
  | succ i=>simpa using ih (by simpa using h)
theorem lB{α β:Type}{F:α→β→Prop}{xs:List α}{ys:List β}(p:Paired F xs ys):∀{i:Nat} {y:β},ys[i]?=some y→∃x,xs[i]?=some x∧F x y:=by
 induction p with
 | nil=>intro i x h;simp at h
 | cons f t ih=>
  intro i x h
  cases i with
  | zero=>simp at h;subst h;exact⟨_,rfl,f⟩
  | succ i=>simpa using ih (by simpa using h)
theorem uG{α β:Type}{F:α→β→Prop}{xs zs:List α}{ys ws:List β}(p:Paired F xs ys)(q:Paired F zs ws):Paired F (xs++zs) (ys++ws):=by
 induction p with
 | nil=>exact q
 | cons f t ih=>exact .cons f ih
theorem iC{α β:Type}{F:α→β→Prop}{xs:List α}{ys:List β}{x:α}{y:β}(p:Paired F xs ys)(h:F x y):Paired F (xs++[x]) (ys++[y]):=uG p (.cons h .nil)
theorem Am{α β:Type}{F:α→β→Prop}{xs:List α}{ys:List β}(p:Paired F xs ys):Paired F xs.reverse ys.reverse:=by
 induction p with
 | nil=>exact .nil
 | cons f t ih=>rw[abX,abX];exact iC ih f
theorem j7{as:List Addr}{i:Nat}{v:V}(h:(as.map V.ref)[i]?=some v):∃b,as[i]?=some b∧v=.ref b:=by
 rw[aam] at h
 obtain⟨b,e,rfl⟩:=Option.map_eq_some_iff.mp h
 exact⟨b,e,rfl⟩
theorem UK.eq{v:V}{o:Option Str}(h:UK v o)(f:Str):decide (v=.str f)=decide (o=some f):=by
 cases o with
 | none=>rw[show v=.jo from h,aaf (fun z=>by cases z),aaf (fun z=>by cases z)]
 | some x=>
  rw[show v=.str x from h]
  by_cases e:x=f
  ·subst e;rw[ZF rfl,ZF rfl]
  ·rw[aaf (fun z=>e (V.str.inj z)),aaf (fun z=>e (aau z))]
theorem Nz{α:Type}{xs:List α}{x:α}{i:Nat}(h:xs.length≤i:=by assumption):(xs++[x]).length≤i+1:=by rw[ZD];exact Nat.succ_le_succ h
def wy(n:Nat):Prop:=n≤4000
theorem wy.sz{n:Nat}(h:wy n):n≤sizeLine:=aac h (by decide)
section
variable{P:Program}{w:World}{K:Qqy}{mg:Qqx}{base:Heap}{A:Ad}
def O9(A:Ad):Sp:=fun vs H Q _=>∃(a:Addr)(ps:List Pt),vs=[.ref a]∧yQ A H a ps∧wy ps.length∧∀p H',gm H H'→H p=none→yQ A H' p (live ps)→Q (.ref p) H'
def Tb(kvs:List (Key×V))(t:List Str):Prop:=∀x,(iR kvs (Sum.inr x)).isSome=decide (x∈t)
theorem Tb.put{kvs:List (Key×V)}{t:List Str}(h:Tb kvs t)(y:Str)(v:V):Tb (putK kvs (Sum.inr y) v) (y::t):=fun x=>by
 rw[j8]
 by_cases e:x=y
 ·subst e;rw[aap rfl,ZF aat];rfl
 ·rw[aak (fun z=>e (aci z)),h x]
  by_cases m:x∈t
  ·rw[ZF m,ZF (aad _ m)]
  ·rw[aaf m,aaf (fun z=>(W3.mp z).elim e m)]
theorem Gf(p:Pt)(r:List Pt)(t:List Str):lN (p::r) t=if p.nm∈t then lN r t else p::lN r (match p.other with|some o=>o::t|none=>t):=rfl
theorem yR(T:Txt mg)(O:Ok K mg A):ip P w K mg base mU 1 A.rX A.rY ["patches"] (O9 A):=by
 refine O.vO.f.rl lg fun js A0 outer s H vs Q E hr h=>?_
 obtain⟨a,ps,rfl,⟨as,ha,pa⟩,j0,q⟩:=h
 have hlen:=aaq pa
 refine⟨_,(de (lx 1 lg nV)
   (de (lx 2 lg (iW d_))
   (de (iH aaz rfl (L9 rfl T.zY (a_ (pv 0) d_)) (tM 3 lg) (fT (iy (jt (lu (by exact iY hr) (gE (pv 3) rfl) (pv 1))) (de (g_ (qR aaM aaY aaZ kO (pv 2) (a_ (pv 3) d_)))
   (fT (iy (jt (sV (gE (pv 3) rfl))) (fT (jy (by exact iY hr) (pv 1) (gE (pv 3) rfl) kW rfl)) hX))) hX)))
   (fT (h_ (FQ rfl (by rfl) T.zX (by rfl) T.zY (a_ (pv 2) d_))))))),?_⟩
 refine OQ ?_;intro _ _ _
 intro t ht
 have s1:gm H (upd H t (.dK [])):=(gm.refl H).new ht
 refine⟨L2.j0,fun l hl=>?_⟩
 have s2:gm H (upd (upd H t (.dK [])) l (.lst [])):=s1.new hl
 have Qb:t≠l:=fun z=>by rw[z] at hl;rw[b_] at hl;cases hl
 refine⟨_,rfl,a,_,rfl,hE.of (s2 a _ ha),L_ (K:=K) (a:=a) (xs:=as.map V.ref) (fun i σ H2=>∃(v:Option V)(kvs:List (Key×V))(tb:List Str)(ls:List Addr)(lp:List Pt),σ=[rr a,rr t,rr l,v]∧gm H H2∧H2 t=some (.dK kvs)∧Tb kvs tb∧kvs.length≤i∧H2 l=some (.lst (ls.map V.ref))∧ls.length≤i∧Paired (oE A H) ls lp∧lp++lN (ps.reverse.drop i) tb=lN ps.reverse [])
  ⟨none,[],[],[],[],rfl,s2,by rw[e_ Qb];exact b_,(fun x=>rfl),ZA _,b_,ZA _,.nil,rfl⟩ (by rintro _ _ _ _ ⟨_,_,_,_,_,_,s3,_⟩;exact hE.of (s3 a _ ha)) ?_ ?_⟩
 ·rintro i v σ H2 hx ⟨v0,kvs,tb,ls,lp,rfl,s3,h1,h2,h3,h4,h5,h6,h7⟩
  rw[←List.map_reverse] at hx
  obtain⟨b,hb,rfl⟩:=j7 hx
  obtain⟨p,hp,dx,vf,pu,cu,vo,g1,g2,g3,g4,g5⟩:=iw (Am pa) hb
  have hi:i<ps.reverse.length:=(List.getElem?_eq_some_iff.mp hp).1
  have Bt:i<4000:=by rw[abi] at hi;exact aaE hi j0
  have hd:ps.reverse.drop i=p::ps.reverse.drop (i+1):=by rw[aaQ hi];congr 1;exact(List.getElem?_eq_some_iff.mp hp).2
  rw[hd] at h7
  refine⟨_,rfl,b,A.hV,dx,_,_,rfl,s3 _ _ g1,O.jm,O.iZ,sD,_,rfl,t,_,rfl,ja.k (k:=Sum.inr p.nm) h1,_,rfl,?_⟩
  rw[h2 p.nm]
  rw[Gf] at h7
  by_cases hm:p.nm∈tb
  ·rw[aap hm] at h7
   rw[ZF hm]
   exact jz ⟨_,kvs,tb,ls,lp,rfl,s3,h1,h2,by omega,h4,by omega,h6,h7⟩
  ·rw[aak hm] at h7
   rw[aaf hm]
   refine l7 ?_
   refine⟨_,rfl,.inl ⟨rfl,_,hE.of h4⟩,_,rfl,l,_,_,rfl,rfl,h4,by rw[Tj];exact abc h5 (Nat.lt_trans Bt (by decide)),?_⟩
   have W_:H l=none:=s1.free hl
   have s4:gm H (upd H2 l (.lst (ls.map V.ref++[V.ref b]))):=s3.upd W_
   have MY:upd H2 l (.lst (ls.map V.ref++[V.ref b])) t=some (.dK kvs):=by rw[e_ Qb];exact h1
   have e4:upd H2 l (.lst (ls.map V.ref++[V.ref b])) l=some (.lst ((ls++[b]).map V.ref)):=by rw[b_,aar];rfl
   have pp:Paired (oE A H) (ls++[b]) (lp++[p]):=iC h6 ⟨dx,vf,pu,cu,vo,g1,g2,g3,g4,g5⟩
   have Z8:(ls++[b]).length≤i+1:=Nz
   refine⟨_,rfl,b,A.hV,dx,_,_,rfl,s4 _ _ g1,O.jm,O.i5,tf,_,rfl,?_⟩
   cases ho:p.other with
   | none=>
    rw[ho] at g5 h7
    rw[show vo=V.jo from g5]
    exact⟨_,kvs,tb,_,_,rfl,s4,MY,h2,by omega,e4,Z8,pp,by rw[aaw];exact h7⟩
   | some x=>
    rw[ho] at g5 h7
    rw[show vo=V.str x from g5] at g1 ⊢
    refine⟨_,rfl,_,rfl,b,A.hV,dx,_,_,rfl,s4 _ _ g1,O.jm,O.i5,tf,t,_,rfl,nK.k (k:=Sum.inr x) MY (abc h3 (Nat.lt_trans Bt (by decide))),?_⟩
    have Z9:=jq kvs (Sum.inr x:Key) (V.bl true)
    have htH:H t=none:=ht
    exact⟨_,_,x::tb,_,_,rfl,s4.upd htH,b_,h2.put x _,by omega,by rw[e_ Qb.symm];exact e4,Z8,pp,by rw[aaw];exact h7⟩
 ·rintro σ H2 ⟨v0,kvs,tb,ls,lp,rfl,s3,h1,h2,h3,h4,h5,h6,h7⟩
  rw[Tj] at h3 h5 h7
  rw[hlen,←abi,ach] at h7
  have h7:lp=lN ps.reverse []:=by rw[show lN [] tb=[] from rfl,aaa] at h7;exact h7
  refine⟨_,rfl,l,_,rfl,hE.of h4,fun p hp=>?_⟩
  have s4:=s3.new (o:=.lst (ls.map V.ref).reverse) hp
  refine q p _ s4 (s3.free hp) ⟨ls.reverse,by rw[b_,List.map_reverse],?_⟩
  unfold live
  rw[←h7]
  exact Paired.jZ (Am h6) fun _ _ z=>z.same s4
theorem sE{α β:Type}{f:α→List β}{ps qs:List α}(h:ps.Sublist qs):(ps.flatMap f).Sublist (qs.flatMap f):=by
 induction h with
 | slnil=>exact aaH _
 | cons x _ ih=>rw[aaJ];exact ih.trans (aa3 _ _)
 | cons_cons x _ ih=>rw[aaJ,aaJ];exact(aaH _).append ih
structure Small(ps:List Pt):Prop where
 many:wy ps.length
 ir:wy (ps.flatMap (·.ir)).length
 i3:wy (ps.flatMap (·.i3)).length
theorem Small.sub{ps qs:List Pt}(h:ps.Sublist qs)(s:Small qs):Small ps:=⟨aac h.length_le s.many,aac (sE h).length_le s.ir,aac (sE h).length_le s.i3⟩
theorem qF(ps:List Pt)(f:Str):(gg ps f).length≤(ps.flatMap (·.ir)).length:=(sE aaS).length_le
theorem Be(ps:List Pt)(p:Pt)(f:Str):gg (ps++[p]) f=gg ps f++if p.file=some f then p.ir else[]:=by
 unfold gg
 rw[aaF,abk]
 by_cases h:p.file=some f
 ·rw[aap h,aab (by simpa using h),aaX,aaJ,abC,aaa]
 ·rw[aak h,aaj (by simpa using h),aaX,abC]
theorem take_snoc{α:Type}{xs:List α}{i:Nat}{x:α}(h:xs[i]?=some x):xs.take (i+1)=xs.take i++[x]:=by rw[List.take_add_one,h];rfl
def QQ(kvs:List (List Key×V))(ns:List Nm):Prop:=∀n,(iR kvs (nk n)).isSome=decide (n∈ns)
theorem QQ.put{kvs:List (List Key×V)}{ns:List Nm}(h:QQ kvs ns)(y:Nm)(v:V):QQ (putK kvs (nk y) v) (ns++[y]):=fun x=>by
 rw[j8]
 by_cases e:x=y
 ·subst e;rw[aap rfl,ZF (by simp)];rfl
 ·rw[aak (fun z=>e (pq z)),h x]
  by_cases m:x∈ns
  ·rw[ZF m,ZF (aal _ m)]
  ·rw[aaf m,aaf (fun z=>(W9.mp z).elim m fun z=>e (Tq.mp z))]
def R7(A:Ad):Sp:=fun vs H Q _=>∃(a:Addr)(ps:List Pt)(f:Str),vs=[.ref a,.str f]∧yQ A H a ps∧Small ps∧∀p H',gm H H'→H p=none→oC A H' p (gg ps f)→Q (.ref p) H'
theorem vS(T:Txt mg)(O:Ok K mg A):ip P w K mg base mU 1 A.xV A.xW ["patches","file"] (R7 A):=by
 refine O.xf.f.rl qB fun js A0 outer s H vs Q E hr h=>?_
 obtain⟨a,ps,f,rfl,⟨as,ha,pa⟩,sm,q⟩:=h
 have hlen:=aaq pa
 refine⟨_,(de (lx 2 qB (iW d_))
   (de (iH aaz rfl (iq (pv 0)) (tM 3 qB) (fT (iy (ik mH (gE (pv 3) rfl) (pv 1) (iE _)) (fT (g_ (qR aaM PySem.F.slot_list_extend PySem.F.type_list_extend BE (pv 2) (a_ (gE (pv 3) rfl) d_)))) hX)))
   (fT (h_ (pv 2))))),?_⟩
 refine Fp ?_;intro _ _
 refine⟨L2.j0,fun l hl=>?_⟩
 have s1:gm H (upd H l (.lst [])):=(gm.refl H).new hl
 dsimp only [ma];refine IT ?_;intro _
 let Jv:=fun(i:Nat) (σ:St) (H2:Hp)=>∃(v:Option V)(ls:List Addr),σ=[rr a,rs f,rr l,v]∧gm H H2∧H2 l=some (.lst (ls.map V.ref))∧Paired (mQ A H) ls (gg (ps.take i) f)
 refine⟨_,rfl,a,rfl,⟨_,hE.of (s1 a _ ha)⟩,i0 (K:=K) (a:=a) (xs:=as.map V.ref) Jv
  ⟨none,[],rfl,s1,b_,.nil⟩ (by rintro _ _ _ _ ⟨_,_,_,s3,_⟩;exact hE.of (s3 a _ ha)) ?_ ?_⟩
 ·rintro i v σ H2 hx ⟨v0,ls,rfl,s3,h4,h6⟩
  obtain⟨b,hb,rfl⟩:=j7 hx
  obtain⟨p,hp,dx,vf,pu,cu,vo,g1,g2,⟨as2,g3,Tr⟩,g4,g5⟩:=iw pa hb
  have e:gg (ps.take (i+1)) f=gg (ps.take i) f++if p.file=some f then p.ir else[]:=by rw[take_snoc hp,Be]
  refine⟨_,rfl,b,A.hV,dx,_,_,rfl,s3 _ _ g1,O.jm,O.kl,Ki,_,rfl,?_⟩
  have hf:Oq vf (V.str f)=true:=by
   cases hq:p.file with
   | none=>rw[hq] at g2;rw[show vf=V.jo from g2];rfl
   | some x=>rw[hq] at g2;rw[show vf=V.str x from g2];rfl
  refine⟨hf,_,rfl,?_⟩
  rw[g2.eq f]
  by_cases hm:p.file=some f
  ·rw[aap hm] at e
   rw[ZF hm]
   refine l7 ?_
   refine⟨_,rfl,.inl ⟨rfl,_,hE.of h4⟩,_,rfl,b,A.hV,dx,_,_,rfl,s3 _ _ g1,O.jm,O.jM,EK,l,pu,_,_,rfl,rfl,h4,s3 _ _ g3,?_,?_⟩
   ·rw[Tj,Tj,aaq h6,aaq Tr,←ZD,←e]
    exact aac (qF _ f) (Small.sub (acd _ _) sm).ir.sz
   ·refine⟨_,ls++as2,rfl,s3.upd hl,by rw[b_,aar],?_⟩
    rw[e]
    exact uG h6 Tr
  ·rw[aak hm,aaa] at e
   rw[aaf hm]
   exact jz ⟨_,ls,rfl,s3,h4,by rw[e];exact h6⟩
 ·rintro σ H2 ⟨v0,ls,rfl,s3,h4,h6⟩
  rw[Tj,hlen,aas] at h6
  exact⟨_,rfl,q l _ s3 hl ⟨ls,h4,Paired.jZ h6 fun _ _ z=>z.same s3⟩⟩
theorem Ih(ps:List Pt)(p:Pt):gone (ps++[p])=gone ps++p.i3:=by
 unfold gone
 rw[abk,aaJ,abC,aaa]
def Mu(A:Ad):Sp:=fun vs H Q _=>∃(a:Addr)(ps:List Pt)(f:Str),vs=[.ref a,.str f]∧yQ A H a ps∧Small ps∧∀p H',gm H H'→H p=none→oC A H' p (j_ ps f)→Q (.ref p) H'
theorem vT(T:Txt mg)(O:Ok K mg A):ip P w K mg base mU 2 A.pW A.pX ["patches","file"] (Mu A):=by
 have AB:=@yR P w K mg base A T O
 have sR:=@vS P w K mg base A T O
 refine O.sj.f.rl jh fun js A0 outer s H vs Q E hr h=>?_
 obtain⟨a,ps,f,rfl,pa,sm,q⟩:=h
 refine⟨_,(de (lx 2 jh (ml O.vO AB hr (a_ (pv 0) d_)))
   (de (mV (i:=3) jh.nd rfl (Or.inr rfl) mJ)
   (de (iH aaz rfl (iq (pv 2)) (tM 4 jh) (fT (iH aaz rfl (iq (gE (pv 4) rfl)) (tM 5 jh) (fT (jy (by exact iY hr) (pv 3) (pv 5) kW rfl)))))
   (fT (h_ (zy pR (gc kS).names [6] rfl (iq (ml O.xf sR hr (a_ (pv 2) (a_ (pv 1) d_)))) rfl (by decide+kernel) (fun _ _ _ _=>(iF (i:=6) jh.nd rfl (Or.inl rfl))) (fun _ _ _ _=>⟨_,qi (jt (lu (by exact iY hr) (gE (pv 6) rfl) (pv 3))),by(try simp only [lJ]);rfl⟩) (fun _ _ _ _=>A6 (pv 6)))))))),?_⟩
 refine OQ ?_;intro _ _ _
 refine⟨_,rfl,a,ps,rfl,pa,sm.many,fun l H1 s1 Q1 Le=>?_⟩
 have Xa:Small (live ps):=sm.sub (zM ps)
 obtain⟨as,ha,pl⟩:=id Le
 have hlen:=aaq pl
 intro g hg
 have s2:gm H1 (upd H1 g (.dT [])):=(gm.refl H1).new hg
 dsimp only [ma];refine IT ?_;intro _
 let Jv:=fun(i:Nat) (σ:St) (H2:Hp)=>∃(v4 v5:Option V)(kvs:List (List Key×V)),σ=[rr a,rs f,rr l,rr g,v4,v5,none]∧gm H1 H2∧H2 g=some (.dT kvs)∧QQ kvs (gone ((live ps).take i))∧kvs.length≤(gone ((live ps).take i)).length
 refine⟨_,rfl,l,rfl,⟨_,hE.of (s2 l _ ha)⟩,i0 (K:=K) (a:=l) (xs:=as.map V.ref) Jv
  ⟨none,none,[],rfl,s2,b_,(fun x=>rfl),ZA _⟩ (by rintro _ _ _ _ ⟨_,_,_,_,s3,_⟩;exact hE.of (s3 l _ ha)) ?_ ?_⟩
 ·rintro i v σ H2 hx ⟨v4,v5,kvs,rfl,s3,h1,h2,h3⟩
  obtain⟨b,hb,rfl⟩:=j7 hx
  obtain⟨p,hp,dx,vf,pu,cu,vo,g1,g2,g3,⟨cs,g4,Q2⟩,g5⟩:=iw pl hb
  have e:gone ((live ps).take (i+1))=gone ((live ps).take i)++p.i3:=by rw[take_snoc hp,Ih]
  have hsz:(gone ((live ps).take i)++p.i3).length≤4000:=by rw[←e];exact(Xa.sub (acd _ _)).i3
  rw[ZD] at hsz
  have NT:=aaq Q2
  let Jv:=fun(j:Nat) (σ:St) (H3:Hp)=>∃(v5:Option V)(kvs:List (List Key×V)),σ=[rr a,rs f,rr l,rr g,rr b,v5,none]∧gm H1 H3∧H3 g=some (.dT kvs)∧QQ kvs (gone ((live ps).take i)++p.i3.take j)∧kvs.length≤(gone ((live ps).take i)).length+j
  refine⟨_,rfl,b,A.hV,dx,_,_,rfl,s3 _ _ g1,O.jm,O.jN,EL,cu,rfl,⟨_,hE.of (s3 _ _ g4)⟩,i0 (K:=K) (a:=cu) (xs:=cs) Jv
   ⟨v5,kvs,rfl,s3,h1,by rw[abx,aaa];exact h2,by omega⟩ (by rintro _ _ _ _ ⟨_,_,_,s4,_⟩;exact hE.of (s4 cu _ g4)) ?_ ?_⟩
  ·rintro j v σ H3 hx ⟨v5,kvs,rfl,s4,h1,h2,h3⟩
   obtain⟨n,hn,t,rfl,ht⟩:=iw Q2 hx
   have hj:j<cs.length:=(List.getElem?_eq_some_iff.mp hx).1
   refine⟨_,rfl,_,rfl,g,_,rfl,nK.t (k:=nk n) h1 (s4 _ _ ht) (abc (m:=4000) (by omega) (by decide)),?_⟩
   have Z9:=jq kvs (nk n) (V.bl true)
   refine⟨_,_,rfl,s4.upd hg,b_,?_,by omega⟩
   rw[take_snoc hn,←aaw]
   exact h2.put n _
  ·rintro σ H3 ⟨v5,kvs,rfl,s4,h1,h2,h3⟩
   rw[NT,aas] at h2
   rw[NT] at h3
   exact⟨_,v5,kvs,rfl,s4,h1,by rw[e];exact h2,by rw[e,ZD];exact h3⟩
 ·rintro σ H2 ⟨v4,v5,kvs,rfl,s3,h1,h2,h3⟩
  rw[Tj,hlen,aas] at h2
  refine⟨_,rfl,_,rfl,l,live ps,f,rfl,Le.same s3,Xa,fun p H3 s4 tE ⟨Xb,Z_,h3p⟩=>?_⟩
  have hlp:Xb.length=(gg (live ps) f).length:=aaq h3p
  have hbound:Xb.length≤4000:=by rw[hlp];exact aac (qF _ _) Xa.ir
  refine⟨p,rfl,⟨_,hE.of Z_⟩,kx (K:=K) (a:=p) (xs:=Xb.map V.ref) (by rw[Tj];exact aac hbound (by decide)) (fun i ys σ H4=>∃(v6:Option V)(ls:List Addr),σ=[rr a,rs f,rr l,rr g,v4,v5,v6]∧H4=H3∧ys=ls.map V.ref∧ls.length≤i∧Paired (mQ A H3) ls (((gg (live ps) f).take i).filter fun l=>l.nm∉gone (live ps)))
   ⟨none,[],rfl,rfl,rfl,ZA _,.nil⟩ (by rintro _ _ _ _ _ ⟨_,ls,_,e,e2,e3,_⟩;subst e e2;exact⟨hE.of Z_,by rw[Tj];exact e3⟩) ?_ ?_⟩
  ·rintro i v ys σ H4 hx ⟨v6,ls,rfl,rfl,rfl,e3,h6⟩
   obtain⟨b,hb,rfl⟩:=j7 hx
   obtain⟨ln,uJ,dx,vn,vu,vl,k1,⟨t,rfl,k2⟩,k3,k4⟩:=iw h3p hb
   refine⟨_,rfl,b,A.hU,dx,_,_,rfl,k1,O.iQ,O.hG,i7,_,rfl,g,_,rfl,ja.t (k:=nk ln.nm) (s4 _ _ h1) k2,_,rfl,?_⟩
   rw[h2 ln.nm,take_snoc uJ,aaF]
   by_cases hm:ln.nm∈gone (live ps)
   ·rw[ZF hm]
    refine jz ⟨_,ls,rfl,rfl,rfl,by omega,?_⟩
    rw[aaj (by simpa using hm),aaX,aaa]
    exact h6
   ·rw[aaf hm]
    refine l7 ⟨_,rfl,_,ls++[b],rfl,rfl,by rw[aar];rfl,Nz,?_⟩
    rw[aab (by simpa using hm),aaX]
    exact iC h6 ⟨dx,.ref t,vu,vl,k1,⟨t,rfl,k2⟩,k3,k4⟩
  ·rintro ys σ H4 ⟨v6,ls,rfl,rfl,rfl,e3,h6⟩ p2 zf
   rw[Tj,hlp,aas] at h6
   have s5:=((s1.trans s3).trans s4).new (o:=.lst (ls.map V.ref)) zf
   refine q p2 _ s5 (((s1.trans s3).trans s4).free zf) ⟨ls,b_,?_⟩
   exact Paired.jZ h6 fun _ _ z=>z.same ((gm.refl H4).new zf)
theorem qb{κ:Type}[DecidableEq κ](kvs:List (κ×V))(k:κ)(v:V):(putK kvs k v).map (·.1)=if k∈kvs.map (·.1) then kvs.map (·.1) else kvs.map (·.1)++[k]:=by
 unfold putK
 by_cases h:k∈kvs.map (·.1)
 ·have h':(kvs.any fun kv=>decide (kv.1=k))=true:=by
   obtain⟨p,hp,e⟩:=List.mem_map.mp h
   exact List.any_eq_true.mpr ⟨p,hp,ZF e⟩
  rw[aap h',aap h,List.map_map]
  refine abZ fun p _=>?_
  show(if p.1=k then(p.1,v) else p).1=p.1
  split<;>rfl
 ·have h':¬(kvs.any fun kv=>decide (kv.1=k))=true:=fun z=>by
   obtain⟨p,hp,e⟩:=List.any_eq_true.mp z
   exact h (List.mem_map.mpr ⟨p,hp,aaA e⟩)
  rw[aak h',aak h,aar]
  rfl
theorem tj{κ:Type}[DecidableEq κ]{kvs:List (κ×V)}{k:κ}:(iR kvs k).isSome=true↔k∈kvs.map (·.1):=by
 induction kvs with
 | nil=>exact⟨(fun z=>by cases z),(fun z=>by cases z)⟩
 | cons p r ih=>
  by_cases e:p.1=k
  ·rw[jj e,aav,e];exact⟨fun _=>aat,fun _=>rfl⟩
  ·rw[je e,ih,aav]
   exact⟨fun m=>aad _ m,fun z=>(W3.mp z).elim (fun z=>absurd z.symm e) id⟩
theorem EM{κ:Type}[DecidableEq κ]{kvs:List (κ×V)}{k:κ}(h:k∉kvs.map (·.1)):iR kvs k=none:=by
 cases e:iR kvs k with
 | none=>rfl
 | some v=>exact absurd (tj.mp (by rw[e];rfl)) h
theorem sF{n:Nm}{l:List Nm}:nk n∈l.map nk↔n∈l:=by
 constructor
 ·intro h
  obtain⟨m,hm,e⟩:=List.mem_map.mp h
  rw[←pq e];exact hm
 ·exact fun h=>Wc h
def Bf(H:Hp)(a:Addr)(l:List Nm):Prop:=∃dk,H a=some (.dT dk)∧dk.map (·.1)=l.map nk
noncomputable def oF(l:List Nm)(m:Nm):List Nm:=if m∈l then l else l++[m]
theorem sG{l:List Nm}{m x:Nm}:x∈oF l m↔x∈l∨x=m:=by
 unfold oF
 split
 ·rename_i h
  exact⟨.inl,fun z=>z.elim id fun z=>z▸h⟩
 ·simp
theorem y9{l:List Nm}{m:Nm}(h:l.Nodup):(oF l m).Nodup:=by
 unfold oF
 split
 ·exact h
 ·rename_i hm
  rw[aa0]
  exact⟨h,by simp,fun a ha b hb z=>hm (by rw[Tq.mp hb] at z;exact z▸ha)⟩
theorem EN{l:List Nm}{m:Nm}:(oF l m).length≤l.length+1:=by
 unfold oF
 split
 ·omega
 ·rw[ZD];exact ZA _
theorem vU{dk:List (List Key×V)}{l:List Nm}(h:dk.map (·.1)=l.map nk)(m:Nm)(v:V):(putK dk (nk m) v).map (·.1)=(oF l m).map nk:=by
 rw[qb,h]
 unfold oF
 by_cases e:m∈l
 ·rw[aap (sF.mpr e),aap e]
 ·rw[aak (fun z=>e (sF.mp z)),aak e,aar];rfl
noncomputable def zk(ns:List Nm)(ds:List Addr):List (List Key×V):=List.zipWith (fun n d=>(nk n,V.ref d)) ns ds
theorem G5:∀{ns:List Nm} {ds:List Addr} (n:Nm) (d:Addr),ns.length=ds.length→zk (ns++[n]) (ds++[d])=zk ns ds++[(nk n,V.ref d)]
 | [],[],_,_,_=>rfl
 | [],_::_,_,_,h=>by simp at h
 | _::_,[],_,_,h=>by simp at h
 | x::r,y::t,n,d,h=>by
  show(nk x,V.ref y)::zk (r++[n]) (t++[d])=_
  rw[G5 n d (by simpa using h)]
  rfl
theorem CZ:∀{ns:List Nm} {ds:List Addr},ns.length=ds.length→(zk ns ds).map (·.1)=ns.map nk
 | [],[],_=>rfl
 | [],_::_,h=>by simp at h
 | _::_,[],h=>by simp at h
 | x::r,y::t,h=>by
  show nk x::(zk r t).map (·.1)=nk x::r.map nk
  rw[CZ (by simpa using h)]
noncomputable def tI:List Nm→List Addr→Nm→Addr
 | x::r,d::t,n=>if x=n then d else tI r t n
 | _,_,_=>0
theorem Kj:∀{ns:List Nm} {ds:List Addr} {n:Nm},ns.length=ds.length→n∈ns→iR (zk ns ds) (nk n)=some (.ref (tI ns ds n))
 | [],_,_,_,hn=>by cases hn
 | _::_,[],_,h,_=>by simp at h
 | x::r,y::t,n,h,hn=>by
  show iR ((nk x,V.ref y)::zk r t) (nk n)=some (.ref (if x=n then y else tI r t n))
  by_cases e:x=n
  ·subst e
   rw[jj rfl,aap rfl]
  ·have hr:n∈r:=(W3.mp hn).elim (fun z=>absurd z.symm e) id
   rw[je (fun z=>e (pq z)),Kj (by simpa using h) hr,aak e]
theorem C0:∀{ns:List Nm} {ds:List Addr} {n:Nm},ns.length=ds.length→n∈ns→tI ns ds n∈ds
 | [],_,_,_,hn=>by cases hn
 | _::_,[],_,h,_=>by simp at h
 | x::r,y::t,n,h,hn=>by
  show(if x=n then y else tI r t n)∈y::t
  by_cases e:x=n
  ·rw[aap e];exact aat
  ·rw[aak e]
   exact aad _ (C0 (by simpa using h) ((W3.mp hn).elim (fun z=>absurd z.symm e) id))
theorem Kk:∀{ns:List Nm} {ds:List Addr} {n m:Nm},ns.length=ds.length→ds.Nodup→n∈ns→m∈ns→tI ns ds n=tI ns ds m→n=m
 | [],_,_,_,_,_,hn,_,_=>by cases hn
 | _::_,[],_,_,h,_,_,_,_=>by simp at h
 | x::r,y::t,n,m,h,nd,hn,hm,e=>by
  have hl:r.length=t.length:=by simpa using h
  rw[aaL] at nd
  have e:(if x=n then y else tI r t n)=(if x=m then y else tI r t m):=e
  by_cases e1:x=n
  ·by_cases e2:x=m
   ·exact e1.symm.trans e2
   ·rw[aap e1,aak e2] at e
    exact absurd (e▸C0 hl ((W3.mp hm).elim (fun z=>absurd z.symm e2) id)) nd.1
  ·have QT:=(W3.mp hn).elim (fun z=>absurd z.symm e1) id
   by_cases e2:x=m
   ·rw[aak e1,aap e2] at e
    exact absurd (e▸C0 hl QT) nd.1
   ·rw[aak e1,aak e2] at e
    exact Kk hl nd.2 QT ((W3.mp hm).elim (fun z=>absurd z.symm e2) id) e
structure Wf(H:Hp)(p:Addr)(ns:List Nm)(ad:Nm→Addr)(sf:Nm→List Nm):Prop where
 at_:∃kvs,H p=some (.dT kvs)∧(∀n∈ns,iR kvs (nk n)=some (.ref (ad n)))∧kvs.map (·.1)=ns.map nk
 inj:∀n∈ns,∀m∈ns,ad n=ad m→n=m
 ks:∀n∈ns,Bf H (ad n) (sf n)
theorem Mv{ls:List Ln}{l:Ln}{m n:Nm}:Sa (ls++[l]) m n↔Sa ls m n∨(l.nm=n∧l.up=some m)∨(l.nm=m∧l.lo=some n):=by
 unfold Sa
 constructor
 ·rintro⟨x,hx,q⟩
  rcases W9.mp hx with h|h
  ·exact .inl ⟨x,h,q⟩
  ·rw[Tq.mp h] at q;exact .inr q
 ·rintro(⟨x,hx,q⟩|q)
  ·exact⟨x,aal _ hx,q⟩
  ·exact⟨l,by simp,q⟩
def R8(A:Ad):Sp:=fun vs H Q _=>∃(a:Addr)(ls:List Ln),vs=[.ref a]∧oC A H a ls∧wy ls.length∧(ls.map (·.nm)).Nodup∧mZ ls∧
 ∀p H' ad sf,gm H H'→H p=none→(∀n∈ls.map (·.nm),H (ad n)=none)→Wf H' p (ls.map (·.nm)) ad sf→(∀n,(sf n).Nodup∧∀m,m∈sf n↔Sa ls m n)→Q (.ref p) H'
theorem vV(T:Txt mg)(O:Ok K mg A):ip P w K mg base mU 1 A.pY A.pZ ["lines"] (R8 A):=by
 refine O.sr.f.rl kB fun js A0 outer s H vs Q E hr h=>?_
 obtain⟨a,ls,rfl,⟨as,ha,pa⟩,j0,nd,cl,q⟩:=h
 have hlen:=aaq pa
 refine⟨_,(de (lx 1 kB mJ)
   (de (iH aaz rfl (iq (pv 0)) (tM 2 kB) (fT (jy (by exact iY hr) (pv 1) (gE (pv 2) rfl) mJ rfl)))
   (de (iH aaz rfl (iq (pv 0)) (tM 2 kB) (de (rF (iy (jt (sV (gE (pv 2) rfl))) (fT (jy (by exact iY hr) (zI hr (pv 1) (gE (pv 2) rfl)) (gE (pv 2) rfl) kW rfl)) hX))
   (fT (iy (jt (sV (gE (pv 2) rfl))) (fT (jy (by exact iY hr) (zI hr (pv 1) (gE (pv 2) rfl)) (gE (pv 2) rfl) kW rfl)) hX))))
   (fT (h_ (pv 1)))))),?_⟩
 refine OQ ?_;intro _ _ _
 intro p hp
 have s1:gm H (upd H p (.dT [])):=(gm.refl H).new hp
 dsimp only [ma];refine IT ?_;intro _
 let Jv:=fun(i:Nat) (σ:St) (H2:Hp)=>∃(v:Option V)(ds:List Addr),σ=[rr a,rr p,v]∧gm H H2∧H2 p=some (.dT (zk ((ls.take i).map (·.nm)) ds))∧ds.length=((ls.take i).map (·.nm)).length∧ds.Nodup∧(∀d∈ds,H d=none∧d≠p∧H2 d=some (.dT []))
 refine⟨_,rfl,a,rfl,⟨_,hE.of (s1 a _ ha)⟩,i0 (K:=K) (a:=a) (xs:=as.map V.ref) Jv
  ⟨none,[],rfl,s1,b_,rfl,aa6,fun d hd=>by cases hd⟩ (by rintro _ _ _ _ ⟨_,_,_,s3,_⟩;exact hE.of (s3 a _ ha)) ?_ ?_⟩
 ·rintro i v σ H2 hx ⟨v0,ds,rfl,s3,h1,h2,h3,h4⟩
  obtain⟨b,hb,rfl⟩:=j7 hx
  obtain⟨l,hl,dx,vn,vu,vl,g1,⟨t,rfl,g2⟩,g3,g4⟩:=iw pa hb
  have hi:i<ls.length:=(List.getElem?_eq_some_iff.mp hl).1
  intro d hd
  have s4:gm H (upd H2 d (.dT [])):=s3.new hd
  have Xc:d≠p:=fun z=>by rw[z,h1] at hd;cases hd
  have LG:d∉ds:=fun z=>by rw[(h4 d z).2.2] at hd;cases hd
  have MY:upd H2 d (.dT []) p=some (.dT (zk ((ls.take i).map (·.nm)) ds)):=by rw[e_ Xc.symm];exact h1
  have AD:l.nm∉(ls.take i).map (·.nm):=fun z=>by
   have e2:(ls.map (·.nm)).take i=(ls.take i).map (·.nm):=List.map_take.symm
   rw[←e2] at z
   obtain⟨j,hj,e⟩:=aaO.mp z |>.imp fun j h=>(⟨(List.getElem?_eq_some_iff.mp h).1,h⟩:j<((ls.map (·.nm)).take i).length∧((ls.map (·.nm)).take i)[j]?=some l.nm)
   have IL:j<i:=by rw[aaD] at hj;omega
   rw[abN,aap IL] at e
   have e3:(ls.map (·.nm))[i]?=some l.nm:=by rw[aam,hl];rfl
   have:=(abF (List.getElem?_eq_some_iff.mp e).1 nd).mp (e.trans e3.symm)
   omega
  refine⟨_,rfl,_,rfl,b,A.hU,dx,_,_,rfl,s4 _ _ g1,O.iQ,O.hG,i7,p,_,rfl,nK.t (k:=nk l.nm) MY (s4 _ _ g2) ?_,?_⟩
  ·have:(zk ((ls.take i).map (·.nm)) ds).length≤ds.length:=by unfold zk;rw[List.length_zipWith];exact Nat.min_le_right _ _
   rw[h2,Tj,aaD] at this
   exact abc (m:=4000) (by have:wy ls.length:=j0;unfold wy at this;omega) (by decide)
  ·have e:putK (zk ((ls.take i).map (·.nm)) ds) (nk l.nm) (V.ref d)=zk ((ls.take (i+1)).map (·.nm)) (ds++[d]):=by
    rw[take_snoc hl,aar]
    show _=zk (_++[l.nm]) _
    rw[G5 _ _ h2.symm]
    refine Ee _ ?_
    exact EM (by rw[CZ h2.symm];exact fun z=>AD (sF.mp z))
   rw[e]
   refine⟨_,ds++[d],rfl,s4.upd hp,b_,?_,?_,?_⟩
   ·rw[take_snoc hl,aar,ZD,ZD,h2];rfl
   ·rw[aa0]
    exact⟨h3,by simp,fun x hx y hy z=>LG (by rw[Tq.mp hy] at z;exact z▸hx)⟩
   ·intro x hx
    rcases W9.mp hx with hx|hx
    ·obtain⟨k1,k2,k3⟩:=h4 x hx
     refine⟨k1,k2,?_⟩
     rw[e_ k2,e_ (fun z=>by rw[z] at hx;exact LG hx)]
     exact k3
    ·rw[Tq.mp hx]
     exact⟨s3.free hd,Xc,by rw[e_ Xc];exact b_⟩
 ·rintro σ H2 ⟨v0,ds,rfl,s3,h1,h2,h3,h4⟩
  have el:(as.map V.ref).length=ls.length:=by rw[Tj];exact hlen
  rw[el,aas] at h1 h2
  have U1:=h2.symm
  have Dq:∀n∈ls.map (·.nm),iR (zk (ls.map (·.nm)) ds) (nk n)=some (.ref (tI (ls.map (·.nm)) ds n)):=fun n hn=>Kj U1 hn
  have M6:∀n∈ls.map (·.nm),∀m∈ls.map (·.nm),tI (ls.map (·.nm)) ds n=tI (ls.map (·.nm)) ds m→n=m:=fun n hn m hm e=>Kk U1 h3 hn hm e
  have yC:∀n∈ls.map (·.nm),H (tI (ls.map (·.nm)) ds n)=none∧tI (ls.map (·.nm)) ds n≠p∧H2 (tI (ls.map (·.nm)) ds n)=some (.dT []):=fun n hn=>h4 _ (C0 U1 hn)
  generalize tI (ls.map (·.nm)) ds=ad at Dq M6 yC
  have NU:=CZ U1
  generalize zk (ls.map (·.nm)) ds=kvs at h1 Dq NU
  dsimp only [ma];refine IT ?_;intro _
  let Jv:=fun(i:Nat) (σ:St) (H3:Hp)=>∃(v:Option V)(sf:Nm→List Nm),σ=[rr a,rr p,v]∧gm H H3∧H3 p=some (.dT kvs)∧(∀n∈ls.map (·.nm),Bf H3 (ad n) (sf n))∧∀n,(sf n).Nodup∧(sf n).length≤2*i∧∀m,m∈sf n↔Sa (ls.take i) m n
  refine⟨_,rfl,a,rfl,⟨_,hE.of (s3 a _ ha)⟩,i0 (K:=K) (a:=a) (xs:=as.map V.ref) Jv
   ⟨v0,fun _=>[],rfl,s3,h1,fun n hn=>⟨[],(yC n hn).2.2,rfl⟩,fun n=>⟨aa6,aaI _,fun m=>⟨(fun z=>by cases z),fun⟨x,hx,_⟩=>by rw[abx] at hx;cases hx⟩⟩⟩ (by rintro _ _ _ _ ⟨_,_,_,s3,_⟩;exact hE.of (s3 a _ ha)) ?_ ?_⟩
  ·rintro i v σ H3 hx ⟨v1,sf,rfl,s4,k1,k2,k3⟩
   obtain⟨b,hb,rfl⟩:=j7 hx
   obtain⟨l,hl,dx,vn,vu,vl,g1,⟨t,rfl,g2⟩,g3,g4⟩:=iw pa hb
   have hi:i<ls.length:=(List.getElem?_eq_some_iff.mp hl).1
   have hi4:i<4000:=aaE hi j0
   have uJ:l.nm∈ls.map (·.nm):=Wc (V_ hl)
   have step:∀{H3:Hp} {sf:Nm→List Nm} {n m:Nm},gm H H3→H3 p=some (.dT kvs)→(∀n∈ls.map (·.nm),Bf H3 (ad n) (sf n))→n∈ls.map (·.nm)→∀dk,H3 (ad n)=some (.dT dk)→dk.map (·.1)=(sf n).map nk→
     gm H (upd H3 (ad n) (.dT (putK dk (nk m) (V.bl true))))∧upd H3 (ad n) (.dT (putK dk (nk m) (V.bl true))) p=some (.dT kvs)∧(∀x∈ls.map (·.nm),Bf (upd H3 (ad n) (.dT (putK dk (nk m) (V.bl true)))) (ad x) (if x=n then oF (sf n) m else sf x)):=fun{H3 sf n m} s4 k1 k2 hn dk hdk Xd=>by
    refine⟨s4.upd (yC n hn).1,by rw[e_ (yC n hn).2.1.symm];exact k1,fun x hx=>?_⟩
    by_cases e:x=n
    ·subst e
     rw[aap rfl]
     exact⟨_,b_,vU Xd m _⟩
    ·rw[aak e]
     obtain⟨Qc,e1,e2⟩:=k2 x hx
     exact⟨Qc,by rw[e_ (fun z=>e (M6 x hx n hn z))];exact e1,e2⟩
   have U2:∀m n,Sa (ls.take (i+1)) m n↔Sa (ls.take i) m n∨(l.nm=n∧l.up=some m)∨(l.nm=m∧l.lo=some n):=fun m n=>by rw[take_snoc hl];exact Mv
   refine⟨fun σ H4=>∃sf:Nm→List Nm,σ=[rr a,rr p,rr b]∧gm H H4∧H4 p=some (.dT kvs)∧(∀n∈ls.map (·.nm),Bf H4 (ad n) (sf n))∧∀n,(sf n).Nodup∧(sf n).length≤2*i+1∧∀m,m∈sf n↔Sa (ls.take i) m n∨(l.nm=n∧l.up=some m),?_,?_⟩
   ·refine⟨_,rfl,b,A.hU,dx,_,_,rfl,s4 _ _ g1,O.iQ,O.iK,Gd,_,rfl,?_⟩
    cases hu:l.up with
    | none=>
     rw[hu] at g3
     rw[show vu=V.jo from g3]
     exact⟨sf,rfl,s4,k1,k2,fun n=>⟨(k3 n).1,by have:=(k3 n).2.1;omega,fun m=>by rw[(k3 n).2.2 m];exact⟨.inl,fun z=>z.elim id fun z=>by cases z.2⟩⟩⟩
    | some u=>
     rw[hu] at g3
     obtain⟨tu,rfl,gu⟩:=(show lF H vu u from g3)
     obtain⟨dk,e1,e2⟩:=k2 l.nm uJ
     have hdl:dk.length=(sf l.nm).length:=by have:=aa4 List.length e2;rwa [Tj,Tj] at this
     refine⟨_,rfl,_,rfl,b,A.hU,dx,_,_,rfl,s4 _ _ g1,O.iQ,O.hG,i7,p,.ref (ad l.nm),rfl,?_,_,rfl,b,A.hU,dx,_,_,rfl,s4 _ _ g1,O.iQ,O.iK,Gd,ad l.nm,_,rfl,nK.t (k:=nk u) e1 (s4 _ _ gu) (abc (m:=8000) (by have:=(k3 l.nm).2.1;omega) (by decide)),?_⟩
     ·have:=ja.t (k:=nk l.nm) k1 (s4 _ _ g2)
      rw[Dq _ uJ] at this
      exact this
     ·obtain⟨z1,z2,z3⟩:=step (m:=u) s4 k1 k2 uJ dk e1 e2
      refine⟨fun x=>if x=l.nm then oF (sf l.nm) u else sf x,rfl,z1,z2,z3,fun n=>?_⟩
      obtain⟨y1,y2,y3⟩:=k3 n
      show(if n=l.nm then oF (sf l.nm) u else sf n).Nodup∧(if n=l.nm then oF (sf l.nm) u else sf n).length≤_∧∀m,m∈(if n=l.nm then oF (sf l.nm) u else sf n)↔_
      by_cases e:n=l.nm
      ·subst e
       rw[aap rfl]
       have:=EN (l:=sf l.nm) (m:=u)
       refine⟨y9 y1,by omega,fun m=>?_⟩
       rw[sG,y3 m]
       exact⟨fun z=>z.elim .inl fun z=>.inr ⟨rfl,by rw[z]⟩,fun z=>z.elim .inl fun z=>.inr (aau z.2).symm⟩
      ·rw[aak e]
       refine⟨y1,by omega,fun m=>?_⟩
       rw[y3 m]
       exact⟨.inl,fun z=>z.elim id fun z=>absurd z.1.symm e⟩
   ·rintro σ H4 ⟨Hu,rfl,s5,k4,k5,k6⟩
    have fin:∀(Qd:Nm→List Nm)(n:Nm),((Qd n).Nodup∧(Qd n).length≤2*i+2∧∀m,m∈Qd n↔(Sa (ls.take i) m n∨(l.nm=n∧l.up=some m))∨(l.nm=m∧l.lo=some n))→(Qd n).Nodup∧(Qd n).length≤2*(i+1)∧∀m,m∈Qd n↔Sa (ls.take (i+1)) m n:=fun Qd n ⟨z1,z2,z3⟩=>
     ⟨z1,by omega,fun m=>by rw[z3 m,U2 m n,or_assoc]⟩
    refine⟨_,rfl,b,A.hU,dx,_,_,rfl,s5 _ _ g1,O.iQ,O.iL,Ge,_,rfl,?_⟩
    cases hu:l.lo with
    | none=>
     rw[hu] at g4
     rw[show vl=V.jo from g4]
     refine⟨_,Hu,rfl,s5,k4,k5,fun n=>fin Hu n ⟨(k6 n).1,by have:=(k6 n).2.1;omega,fun m=>?_⟩⟩
     rw[(k6 n).2.2 m,hu]
     exact⟨.inl,fun z=>z.elim id fun z=>by cases z.2⟩
    | some d=>
     have LG:d∈ls.map (·.nm):=(cl l (V_ hl)).2 d hu
     rw[hu] at g4
     obtain⟨td,rfl,gd⟩:=(show lF H vl d from g4)
     obtain⟨dk,e1,e2⟩:=k5 d LG
     have hdl:dk.length=(Hu d).length:=by have:=aa4 List.length e2;rwa [Tj,Tj] at this
     refine⟨_,rfl,_,rfl,b,A.hU,dx,_,_,rfl,s5 _ _ g1,O.iQ,O.iL,Ge,p,.ref (ad d),rfl,?_,_,rfl,b,A.hU,dx,_,_,rfl,s5 _ _ g1,O.iQ,O.hG,i7,ad d,_,rfl,nK.t (k:=nk l.nm) e1 (s5 _ _ g2) (abc (m:=8001) (by have:=(k6 d).2.1;omega) (by decide)),?_⟩
     ·have:=ja.t (k:=nk d) k4 (s5 _ _ gd)
      rw[Dq _ LG] at this
      exact this
     ·obtain⟨z1,z2,z3⟩:=step (m:=l.nm) s5 k4 k5 LG dk e1 e2
      refine⟨_,fun x=>if x=d then oF (Hu d) l.nm else Hu x,rfl,z1,z2,z3,fun n=>fin (fun x=>if x=d then oF (Hu d) l.nm else Hu x) n ?_⟩
      obtain⟨y1,y2,y3⟩:=k6 n
      show(if n=d then oF (Hu d) l.nm else Hu n).Nodup∧(if n=d then oF (Hu d) l.nm else Hu n).length≤_∧∀m,m∈(if n=d then oF (Hu d) l.nm else Hu n)↔_
      by_cases e:n=d
      ·subst e
       rw[aap rfl]
       have:=EN (l:=Hu n) (m:=l.nm)
       refine⟨y9 y1,by omega,fun m=>?_⟩
       rw[sG,y3 m,hu]
       exact⟨fun z=>z.elim .inl fun z=>.inr ⟨z.symm,rfl⟩,fun z=>z.elim .inl fun z=>.inr z.1.symm⟩
      ·rw[aak e]
       refine⟨y1,by omega,fun m=>?_⟩
       rw[y3 m,hu]
       exact⟨.inl,fun z=>z.elim id fun z=>absurd (aau z.2).symm e⟩
  ·rintro σ H3 ⟨v1,sf,rfl,s4,k1,k2,k3⟩
   rw[Tj,hlen] at k3
   exact⟨_,rfl,q p _ ad sf s4 hp (fun n hn=>(yC n hn).1) ⟨⟨kvs,k1,Dq,NU⟩,M6,k2⟩ fun n=>⟨(k3 n).1,fun m=>by rw[(k3 n).2.2 m,aas]⟩⟩
theorem lF.upd{H:Hp}{v:V}{n:Nm}{x:Addr}{o o':HO}(h:lF H v n)(hx:H x=some o')(ht:∀xs,o'≠.tup xs):lF (L2.upd H x o) v n:=by
 obtain⟨t,e,W4⟩:=h
 exact⟨t,e,by rw[e_ (iX W4 hx (fun z=>ht _ z.symm))];exact W4⟩
theorem sH{dk:List (List Key×V)}{l:List Nm}(h:dk.map (·.1)=l.map nk):dk.length=l.length:=by
 have:=aa4 List.length h
 rwa [Tj,Tj] at this
theorem EO{dk:List (List Key×V)}{l:List Nm}(h:dk.map (·.1)=l.map nk){i:Nat}{k:List Key}{v:V}(hi:dk[i]?=some (k,v)):∃n,l[i]?=some n∧k=nk n:=by
 have h1:(dk.map (·.1))[i]?=some k:=by rw[aam,hi];rfl
 rw[h,aam] at h1
 obtain⟨n,e,e2⟩:=Option.map_eq_some_iff.mp h1
 exact⟨n,e,e2.symm⟩
theorem keys_has{dk:List (List Key×V)}{l:List Nm}(h:dk.map (·.1)=l.map nk)(n:Nm):(iR dk (nk n)).isSome=decide (n∈l):=by
 by_cases m:n∈l
 ·rw[ZF m];exact tj.mpr (by rw[h];exact sF.mpr m)
 ·rw[aaf m,abE];exact fun z=>m (sF.mp (by rw[←h];exact tj.mp z))
theorem ER:∀(more:List (List Key×V))(dk:List (List Key×V))(l r:List Nm),dk.map (·.1)=l.map nk→more.map (·.1)=r.map nk→l.Nodup→∃l':List Nm,(putAll dk more).map (·.1)=l'.map nk∧l'.Nodup∧∀m,m∈l'↔m∈l∨m∈r
 | [],dk,l,r,h1,h2,nd=>by
  have:r=[]:=by cases r with|nil=>rfl|cons _ _=>cases h2
  subst this
  exact⟨l,h1,nd,fun m=>by simp⟩
 | p::t,dk,l,r,h1,h2,nd=>by
  cases r with
  | nil=>cases h2
  | cons x r=>
   rw[aav,aav] at h2
   injection h2 with e1 e2
   rw[rG,e1]
   obtain⟨l',z1,z2,z3⟩:=ER t (putK dk (nk x) p.2) (oF l x) r (vU h1 x _) e2 (y9 nd)
   refine⟨l',z1,z2,fun m=>?_⟩
   rw[z3 m,sG,W3,or_assoc]
def O_:Sp:=fun vs H Q _=>∃(d a:Addr)(xs:List Nm)(ka:List (List Key×V))(af:Nm→List Nm),vs=[.ref d,.ref a]∧Bf H d xs∧d≠a∧H a=some (.dT ka)∧(∀x∈xs,∃b,iR ka (nk x)=some (.ref b)∧b≠d∧Bf H b (af x))∧xs.length≤4000∧(∀x∈xs,(af x).length≤4000)∧
 ∀p H' rs,gm H H'→H p=none→Bf H' p rs→rs.Nodup→(∀m,m∈rs↔∃x∈xs,m=x∨m∈af x)→Q (.ref p) H'
theorem Ii(T:Txt mg)(O:Ok K mg A):ip P w K mg base mU 1 A.EF A.EG ["names","ahead"] O_:=by
 refine O.joined.f.rl wW fun js A0 outer s H vs Q E hr h=>?_
 obtain⟨d,a,xs,ka,af,rfl,⟨kd,hd,hk⟩,hda,ha,hb,hx4,haf,q⟩:=h
 refine⟨_,(de (lx 2 wW mJ)
   (de (yZ (iH aaz rfl (zH (pv 0)) (tM 3 wW) (de (jy (by exact iY hr) (pv 2) (pv 3) kW rfl)
   (fT (g_ (JW (by exact iY hr) (pv 2) (zI hr (pv 1) (pv 3)) ⟨rfl,rfl,rfl,rfl⟩))))))
   (fT (h_ (pv 2))))),?_⟩
 refine Fp ?_;intro _ _
 intro p hp
 have Ts:p≠d:=(gj hd hp).symm
 have NV:p≠a:=(gj ha hp).symm
 refine⟨_,rfl,d,kd,rfl,by rw[e_ Ts.symm];exact hd,fun o uz=>?_⟩
 have IY:=sH hk
 let Jv:=fun(i:Nat) (σ:St) (H2:Hp)=>∃(v:Option V)(kf:List (List Key×V))(rs:List Nm),σ=[rr d,rr a,rr p,v]∧(∀b o,H b=some o→b≠d→H2 b=some o)∧H2 d=some (.nA o (.dT kd))∧H2 p=some (.dT kf)∧kf.map (·.1)=rs.map nk∧rs.Nodup∧kf.length≤i*4001∧∀m,m∈rs↔∃x∈xs.take i,m=x∨m∈af x
 refine BN (d:=d) (o:=o) (kvs:=kd) Jv
  ⟨none,[],[],rfl,fun b o e nb=>by rw[e_ nb,e_ (gj e hp)];exact e,b_,by rw[e_ Ts];exact b_,rfl,aa6,by simp,fun m=>by simp⟩ (by rintro _ _ _ ⟨_,_,_,_,_,e,_⟩;exact e) ?_ ?_
 ·rintro i k v t σ H2 hi ht ⟨v0,kf,rs,rfl,h1,h2,h3,h4,h5,h6,h7⟩
  obtain⟨x,hx,rfl⟩:=EO hk hi
  have hxm:x∈xs:=V_ hx
  have Bt:i<xs.length:=(List.getElem?_eq_some_iff.mp hx).1
  obtain⟨b,e1,e2,kb,e3,e4⟩:=hb x hxm
  have hbp:b≠p:=gj e3 hp
  have NQ:=sH e4
  have hb4:=haf x hxm
  have htp:t≠p:=fun z=>by rw[z,h3] at ht;cases ht
  have hl:=jq kf (nk x) (V.bl true)
  have sz:sizeLine=16777216:=aaB
  have hmul:i*4001≤4000*4001:=Nat.mul_le_mul_right _ (by omega)
  refine⟨_,rfl,_,rfl,p,_,rfl,nK.t (k:=nk x) h3 ht (by omega),?_⟩
  have oy:putK kf (nk x) (V.bl true)≠[]:=fun z=>by
   have:=vU h4 x (V.bl true)
   rw[z] at this
   have hm:x∈oF rs x:=sG.mpr (.inr rfl)
   cases hq:oF rs x with
   | nil=>rw[hq] at hm;cases hm
   | cons _ _=>rw[hq] at this;cases this
  refine⟨_,rfl,p,rfl,.inr ⟨_,.inl b_⟩,_,rfl,_,rfl,a,.ref b,rfl,?_,b,_,kb,rfl,b_,.inl (by rw[e_ hbp];exact h1 _ _ e3 e2),hbp.symm,oy,by omega,?_⟩
  ·have:=ja.t (H:=L2.upd H2 p (.dT (putK kf (nk x) (V.bl true)))) (k:=nk x) (by rw[e_ NV.symm];exact h1 a _ ha hda.symm) (b:=t) (by rw[e_ htp];exact ht)
   rw[e1] at this
   exact this
  ·obtain⟨l',z1,z2,z3⟩:=ER kb _ (oF rs x) (af x) (vU h4 x (V.bl true)) e4 (y9 h5)
   refine⟨_,_,l',rfl,fun b o e nb=>?_,?_,b_,z1,z2,?_,fun m=>?_⟩
   ·rw[e_ (gj e hp),e_ (gj e hp)];exact h1 b o e nb
   ·rw[e_ Ts.symm,e_ Ts.symm];exact h2
   ·have:=qk kb (putK kf (nk x) (V.bl true))
    have:(i+1)*4001=i*4001+4001:=Nat.succ_mul _ _
    omega
   ·rw[z3 m,sG,h7 m,take_snoc hx]
    constructor
    ·rintro((⟨y,hy,z⟩|z)|z)
     ·exact⟨y,aal _ hy,z⟩
     ·exact⟨x,by simp,.inl z⟩
     ·exact⟨x,by simp,.inr z⟩
    ·rintro⟨y,hy,z⟩
     rcases W9.mp hy with hy|hy
     ·exact .inl (.inl ⟨y,hy,z⟩)
     ·rw[Tq.mp hy] at z
      exact z.elim (fun z=>.inl (.inr z)) .inr
 ·rintro σ H2 ⟨v0,kf,rs,rfl,h1,h2,h3,h4,h5,h6,h7⟩
  rw[IY,aas] at h7
  refine⟨d,o,_,h2,uz,_,rfl,q p _ rs (fun b u e=>?_) hp ⟨kf,by rw[e_ Ts];exact h3,h4⟩ h5 h7⟩
  by_cases Xe:b=d
  ·subst Xe;rw[b_];rw[hd] at e;exact e
  ·rw[e_ Xe];exact h1 b u e Xe
structure pw(ls:List Ln)(H1 H:Hp)(h:Addr)(S:List Nm)(af:Nm→List Nm):Prop where
 ex:∃kvs,H h=some (.dT kvs)∧kvs.map (·.1)=S.map nk∧∀n∈S,∃b,iR kvs (nk n)=some (.ref b)∧b≠h∧H1 b=none∧Bf H b (af n)
 nd:S.Nodup
 good:∀n∈S,n∈ls.map (·.nm)∧(af n).Nodup∧∀m,m∈af n↔Ah ls m n
theorem pw.same{ls:List Ln}{H1 H H':Hp}{h:Addr}{S:List Nm}{af:Nm→List Nm}(x:pw ls H1 H h S af)(s:gm H H'):pw ls H1 H' h S af:=by
 obtain⟨⟨kvs,e1,e2,e3⟩,nd,g⟩:=x
 refine⟨⟨kvs,s _ _ e1,e2,fun n hn=>?_⟩,nd,g⟩
 obtain⟨b,z1,z2,z3,dk,z4,z5⟩:=e3 n hn
 exact⟨b,z1,z2,z3,dk,s _ _ z4,z5⟩
theorem pw.lst{ls:List Ln}{H1 H:Hp}{h c:Addr}{S:List Nm}{af:Nm→List Nm}{xs:List V}{o:HO}(x:pw ls H1 H h S af)(hc:H c=some (.lst xs)):pw ls H1 (L2.upd H c o) h S af:=by
 obtain⟨⟨kvs,e1,e2,e3⟩,nd,g⟩:=x
 refine⟨⟨kvs,by rw[e_ (iX e1 hc (fun z=>by cases z))];exact e1,e2,fun n hn=>?_⟩,nd,g⟩
 obtain⟨b,z1,z2,z3,dk,z4,z5⟩:=e3 n hn
 exact⟨b,z1,z2,z3,dk,by rw[e_ (iX z4 hc (fun z=>by cases z))];exact z4,z5⟩
theorem G6{sf:Nm→List Nm}{B n:Nat}{st S:List Nm}(r:Run sf B n st S):st.length≤B:=by
 cases r with
 | nil=>exact aaI _
 | skip _ h _=>exact h
 | fin _ _ h _=>exact h
 | push _ _ h _=>exact h
theorem ES{α β:Type}{F:α→β→Prop}{vs:List α}{xs:List β}{x:β}(p:Paired F vs (xs++[x])):∃U3 v,vs=U3++[v]∧Paired F U3 xs∧F v x:=by
 induction xs generalizing vs with
 | nil=>
  cases p with
  | cons f t=>cases t;exact⟨[],_,rfl,.nil,f⟩
 | cons y r ih=>
  cases p with
  | cons f t=>
   obtain⟨U3,v,rfl,h1,h2⟩:=ih t
   exact⟨_::U3,v,rfl,.cons f h1,h2⟩
def C1(H:Hp)(p:Addr)(ls:List Ln):Prop:=∃kvs,H p=some (.dT kvs)∧∀n∈ls.map (·.nm),∃b dk,iR kvs (nk n)=some (.ref b)∧H b=some (.dT dk)∧∀m,(iR dk (nk m)).isSome=true↔Ah ls m n
theorem C1.same{H H':Hp}{p:Addr}{ls:List Ln}(x:C1 H p ls)(s:gm H H'):C1 H' p ls:=by
 obtain⟨kvs,e1,e2⟩:=x
 refine⟨kvs,s _ _ e1,fun n hn=>?_⟩
 obtain⟨b,dk,z1,z2,z3⟩:=e2 n hn
 exact⟨b,dk,z1,s _ _ z2,z3⟩
def R9(A:Ad):Sp:=fun vs H Q _=>∃(a:Addr)(ls:List Ln),vs=[.ref a]∧oC A H a ls∧wy ls.length∧(ls.map (·.nm)).Nodup∧mZ ls∧J6 ls∧∀p H',gm H H'→H p=none→C1 H' p ls→Q (.ref p) H'
theorem C2(T:Txt mg)(O:Ok K mg A):ip P w K mg base mU 2 A.xX A.xY ["lines"] (R9 A):=by
 have xq:=@vV P w K mg base A T O
 have Lf:=@Ii P w K mg base A T O
 refine O.BR.f.rl jE fun js A0 outer s H vs Q E hr h=>?_
 obtain⟨a,ls,rfl,la,j0,nd,cl,tp,q⟩:=h
 obtain⟨as,ha,pa⟩:=id la
 have hlen:=aaq pa
 have yT:ls.length≤4000:=j0
 refine⟨_,(de (lx 1 jE (ml O.sr xq hr (a_ (pv 0) d_)))
   (de (mV (i:=2) jE.nd rfl (Or.inr rfl) mJ)
   (de (iH aaz rfl (iq (pv 0)) (tM 3 jE) (de (lx 4 jE (iW (a_ (gE (pv 3) rfl) d_)))
   (fT (DY aaz (uY (pv 4) (fun _=>rfl)) (de (lx 5 jE (Oz aaM PySem.F.slot_list_pop PySem.F.type_list_pop OB (pv 4)))
   (de (iy (jt (ph (by exact iY hr) (pv 5) (pv 2))) (fT (DX)) hX)
   (de (yZ (Cz (j:=6) xO (gc oR).names [7] jE.nd rfl rfl rfl (zH (zI hr (pv 1) (pv 5))) rfl (by decide+kernel) (fun _ _ _ _=>(iF (i:=7) jE.nd rfl (Or.inl rfl))) (fun _ _ _ _=>⟨_,qi (jt (lu (by exact iY hr) (pv 7) (pv 2))),by(try simp only [lJ]);rfl⟩) (fun _ _ _ _=>A6 (pv 7))))
   (fT (iy (uY (pv 6) (fun _=>rfl)) (de (g_ (qR aaM aaY aaZ kO (pv 4) (a_ (pv 5) d_)))
   (fT (g_ (qR aaM PySem.F.slot_list_extend PySem.F.type_list_extend BE (pv 4) (a_ (pv 6) d_))))) (fT (jy (by exact iY hr) (pv 2) (pv 5) (ml O.joined Lf hr (a_ (zI hr (pv 1) (pv 5)) (a_ (pv 2) d_))) rfl)))))))))))
   (fT (h_ (pv 2)))))),?_⟩
 refine OQ ?_;intro _ _ _
 refine⟨_,rfl,a,ls,rfl,la,j0,nd,cl,fun st H1 ad sf s1 hst0 had0 lG Qe=>?_⟩
 obtain⟨⟨kst,M7,Tt,hst3⟩,M6,Xd⟩:=lG
 have hN:(1+ls.length*ls.length)≤16000001:=by have:=Nat.mul_le_mul yT yT;omega
 have sz:sizeLine=16777216:=aaB
 have Tu:∀n,(sf n).length≤4000:=fun n=>by
  have:=len_sub (ys:=ls.map (·.nm)) (Qe n).1 fun y hy=>(cl.sa (((Qe n).2 y).mp hy)).1
  rw[Tj] at this;omega
 intro h hh
 have s2:gm H1 (L2.upd H1 h (.dT [])):=(gm.refl H1).new hh
 dsimp only [ma];refine IT ?_;intro _
 let Jv:=fun(i:Nat) (σ:St) (H2:Hp)=>∃(v3 v4 v5 v6:Option V)(S:List Nm)(af:Nm→List Nm),σ=[rr a,rr st,rr h,v3,v4,v5,v6,none]∧gm H1 H2∧pw ls H1 H2 h S af∧∀l∈ls.take i,l.nm∈S
 refine⟨_,rfl,a,rfl,⟨_,hE.of (s2 _ _ (s1 _ _ ha))⟩,i0 (K:=K) (a:=a) (xs:=as.map V.ref) Jv
  ⟨none,none,none,none,[],fun _=>[],rfl,s2,⟨⟨[],b_,rfl,fun n hn=>by cases hn⟩,aa6,fun n hn=>by cases hn⟩,fun l hl=>by rw[abx] at hl;cases hl⟩ (by rintro _ _ _ _ ⟨_,_,_,_,_,_,_,s3,_⟩;exact hE.of (s3 _ _ (s1 _ _ ha))) ?_ ?_⟩
 ·rintro i v σ H2 hx ⟨v3,v4,v5,v6,S0,af0,rfl,s3,D0,hS0⟩
  obtain⟨b,hb,rfl⟩:=j7 hx
  obtain⟨l,hl,dx,vn,vu,vl,g1,⟨t0,rfl,g2⟩,g3,g4⟩:=iw pa hb
  have uJ:l.nm∈ls.map (·.nm):=Wc (V_ hl)
  refine⟨_,rfl,b,A.hU,dx,_,_,rfl,s3 _ _ (s1 _ _ g1),O.iQ,O.hG,i7,L2.j0,fun c hc=>?_⟩
  have Tv:H1 c=none:=s3.free hc
  have s4:gm H1 (L2.upd H2 c (.lst [.ref t0])):=s3.new hc
  obtain⟨n0,r0⟩:=J7 cl tp Qe l.nm S0
  refine⟨fun m σ H3=>∃(v5 v6:Option V)(sk S:List Nm)(af:Nm→List Nm)(cv:List V),σ=[rr a,rr st,rr h,rr b,rr c,v5,v6,none]∧Run sf (1+ls.length*ls.length) m sk S∧gm H1 H3∧H3 c=some (.lst cv)∧Paired (lF H3) cv sk.reverse∧pw ls H1 H3 h S af∧(∀y∈sk,y∈ls.map (·.nm))∧(l.nm∈sk∨l.nm∈S)∧(∀y∈S0,y∈S),
   ⟨n0,v5,v6,[l.nm],S0,af0,[.ref t0],rfl,r0,s4,b_,.cons ⟨t0,rfl,s4 _ _ (s1 _ _ g2)⟩ .nil,D0.same ((gm.refl H2).new hc),fun y hy=>by rw[Tq.mp hy];exact uJ,.inl (by simp),fun _ z=>z⟩,?_⟩
  rintro m σ H3 ⟨v5,v6,sk,S,af,cv,rfl,run,s5,Qf,Xf,D,Xg,NO,hS⟩
  cases sk with
  | nil=>
   have:cv=[]:=by cases Xf;rfl
   subst this
   refine⟨_,rfl,false,.inl ⟨_,hE.of Qf,rfl⟩,jz ?_⟩
   refine⟨_,_,_,_,S,af,rfl,s5,D,fun y hy=>?_⟩
   rw[take_snoc hl] at hy
   rcases W9.mp hy with hy|hy
   ·exact hS _ (hS0 y hy)
   ·rw[Tq.mp hy]
    exact NO.elim (fun z=>by cases z) id
  | cons x sk=>
   rw[abX] at Xf
   obtain⟨IZ,vx,rfl,Tw,t,rfl,ht⟩:=ES Xf
   have Qg:x∈ls.map (·.nm):=Xg x aat
   have Tx:∀y∈sk,y∈ls.map (·.nm):=fun y hy=>Xg y (aad _ hy)
   have NT:IZ.length=sk.length:=by have:=aaq Tw;rwa [abi] at this
   refine⟨_,rfl,true,.inl ⟨_,hE.of Qf,by simp⟩,l7 ?_⟩
   obtain⟨n,hn,run'⟩:∃n,m=n+1∧(x∈S∧Run sf (1+ls.length*ls.length) n sk S∨x∉S∧Es sf S x=[]∧Run sf (1+ls.length*ls.length) n sk (S++[x])∨x∉S∧Es sf S x≠[]∧Run sf (1+ls.length*ls.length) n ((Es sf S x).reverse++x::sk) S):=by
    cases run with
    | skip z1 _ z2=>exact⟨_,rfl,.inl ⟨z1,z2⟩⟩
    | fin z1 z2 _ z3=>exact⟨_,rfl,.inr (.inl ⟨z1,z2,z3⟩)⟩
    | push z1 z2 _ z3=>exact⟨_,rfl,.inr (.inr ⟨z1,z2,z3⟩)⟩
   have UT:sk.length+1≤16000001:=by have:=G6 run;rw[aae] at this;omega
   subst hn
   refine⟨fun σ H4=>∃(v5 v6:Option V)(sk S:List Nm)(af:Nm→List Nm)(cv:List V),σ=[rr a,rr st,rr h,rr b,rr c,v5,v6,none]∧Run sf (1+ls.length*ls.length) n sk S∧gm H1 H4∧H4 c=some (.lst cv)∧Paired (lF H4) cv sk.reverse∧pw ls H1 H4 h S af∧(∀y∈sk,y∈ls.map (·.nm))∧(l.nm∈sk∨l.nm∈S)∧(∀y∈S0,y∈S),fun σ' H' z=>⟨n,acf n,z⟩,?_⟩
   refine⟨_,rfl,.inl ⟨rfl,_,hE.of Qf⟩,c,_,.ref t,rfl,rfl,Qf,by simp,?_⟩
   rw[List.dropLast_concat]
   have D4:pw ls H1 (L2.upd H3 c (.lst IZ)) h S af:=D.lst Qf
   have s6:gm H1 (L2.upd H3 c (.lst IZ)):=s5.upd Tv
   have p4:Paired (lF (L2.upd H3 c (.lst IZ))) IZ sk.reverse:=Paired.jZ Tw fun _ _ z=>z.upd Qf (fun _ z=>by cases z)
   have Q3:L2.upd H3 c (.lst IZ) t=some (nT x):=by rw[e_ (iX ht Qf (fun z=>by cases z))];exact ht
   have Q4:L2.upd H3 c (.lst IZ) c=some (.lst IZ):=b_
   generalize L2.upd H3 c (.lst IZ)=H4 at D4 s6 p4 Q3 Q4 ⊢
   obtain⟨⟨kvs,e1,e2,e3⟩,Xh,good⟩:=id D4
   refine⟨_,rfl,_,rfl,h,_,rfl,ja.t (k:=nk x) e1 Q3,_,rfl,?_⟩
   rw[keys_has e2 x]
   rcases run' with⟨Q5,r⟩|NW
   ·rw[ZF Q5]
    refine l7 ⟨_,_,sk,S,af,IZ,rfl,r,s6,Q4,p4,D4,Tx,?_,hS⟩
    exact NO.elim (fun z=>(W3.mp z).elim (fun z=>.inr (z▸Q5)) .inl) .inr
   ·have Q5:x∉S:=NW.elim (·.1) (·.1)
    rw[aaf Q5]
    refine jz ?_
    obtain⟨dk,Xi,hd2⟩:=Xd x Qg
    have Xj:=s6 _ _ Xi
    have Tz:ad x≠h:=gj Xi hh
    refine⟨_,rfl,_,rfl,st,.ref (ad x),rfl,?_,ad x,dk,rfl,Xj,fun o uz=>?_⟩
    ·have:=ja.t (k:=nk x) (s6 _ _ M7) Q3
     rw[Tt x Qg] at this
     exact this
    have Xk:∀{y:Addr} {u:HO},y≠ad x→H4 y=some u→L2.upd H4 (ad x) (.nA o (.dT dk)) y=some u:=fun ny e=>by rw[e_ ny];exact e
    refine JS (d:=ad x) (o:=o) (kvs:=dk) (by rw[sH hd2];exact aac (Tu x) (by decide)) (fun i ys σ H5=>∃(v7:Option V),σ=[rr a,rr st,rr h,rr b,rr c,rr t,v6,v7]∧H5=L2.upd H4 (ad x) (.nA o (.dT dk))∧ys.length≤i∧Paired (lF (L2.upd H4 (ad x) (.nA o (.dT dk)))) ys (((sf x).take i).filter fun y=>y∉S))
     ⟨none,rfl,rfl,ZA _,.nil⟩ (by rintro _ _ _ _ ⟨_,_,e,e4,_⟩;subst e;exact⟨b_,e4⟩) ?_ ?_
    ·rintro i k v tb ys σ H5 hi Xl ⟨v7,rfl,rfl,e4,e5⟩
     obtain⟨y,hy,rfl⟩:=EO hd2 hi
     refine⟨_,rfl,_,rfl,h,_,rfl,ja.t (k:=nk y) (Xk Tz.symm e1) Xl,_,rfl,?_⟩
     rw[keys_has e2 y,take_snoc hy,aaF]
     by_cases hm:y∈S
     ·rw[ZF hm]
      refine jz ⟨_,rfl,rfl,by omega,?_⟩
      rw[aaj (by simpa using hm),aaX,aaa]
      exact e5
     ·rw[aaf hm]
      refine l7 ⟨_,rfl,_,rfl,rfl,Nz,?_⟩
      rw[aab (by simpa using hm),aaX]
      exact iC e5 ⟨tb,rfl,Xl⟩
    ·rintro ys σ H5 ⟨v7,rfl,rfl,e4,e5⟩ p hp
     rw[sH hd2,aas] at e5
     have NV:p≠ad x:=fun z=>by rw[z,b_] at hp;cases hp
     have NX:H4 p=none:=by rw[e_ NV] at hp;exact hp
     refine⟨ad x,o,_,by rw[e_ NV.symm];exact b_,uz,?_⟩
     rw[CB Xj NV]
     have pm:Paired (lF H4) ys (Es sf S x):=Paired.jZ e5 fun v y ⟨tb,e,z⟩=>⟨tb,e,by
      have:tb≠ad x:=fun w=>by rw[w,b_] at z;cases z
      rwa [e_ this] at z⟩
     have s7:gm H4 (L2.upd H4 p (.lst ys)):=(gm.refl H4).new NX
     have Qh:ys.length=(Es sf S x).length:=aaq pm
     refine⟨_,rfl,!ys.isEmpty,.inl ⟨_,hE.of b_,rfl⟩,?_⟩
     rcases NW with⟨_,U4,r⟩|⟨_,U4,r⟩
     ·
      have:ys=[]:=aaK.mp (by rw[Qh,U4];rfl)
      subst this
      refine jz ?_
      have Dm:=CG.mp U4
      refine⟨_,rfl,_,rfl,st,.ref (ad x),rfl,?_,_,rfl,ad x,h,sf x,kvs,af,rfl,⟨dk,s7 _ _ Xj,hd2⟩,Tz,s7 _ _ e1,fun y hy=>?_,Tu x,fun y hy=>?_,fun p2 H6 rs s8 zf Xm NY hm2=>?_⟩
      ·have:=ja.t (k:=nk x) (s7 _ _ (s6 _ _ M7)) (s7 _ _ Q3)
       rw[Tt x Qg] at this
       exact this
      ·obtain⟨bb,z1,z2,z3,Qc,z4,z5⟩:=e3 y (Dm y hy)
       exact⟨bb,z1,(gj Xi z3).symm,Qc,s7 _ _ z4,z5⟩
      ·obtain⟨z1,z2,z3⟩:=good y (Dm y hy)
       have:=len_sub (ys:=ls.map (·.nm)) z2 fun m hm=>(cl.ah ((z3 m).mp hm)).1
       rw[Tj] at this;omega
      ·have s9:=s7.trans s8
       have hSl:S.length≤4000:=by
        have:=len_sub (ys:=ls.map (·.nm)) Xh fun m hm=>(good m hm).1
        rw[Tj] at this;omega
       have e6:H6 h=some (.dT kvs):=s9 _ _ e1
       refine⟨_,rfl,_,rfl,h,_,rfl,nK.t (k:=nk x) e6 (s9 _ _ Q3) (by rw[sH e2];omega),?_⟩
       have TB:p2≠h:=(gj (s7 _ _ e1) zf).symm
       have Xn:H1 p2=none:=(s6.trans s7).free zf
       have key:putK kvs (nk x) (V.ref p2)=kvs++[(nk x,V.ref p2)]:=Ee _ (EM (by rw[e2];exact fun z=>Q5 (sF.mp z)))
       have hhT:H1 h=none:=hh
       refine⟨_,_,sk,S++[x],fun y=>if y=x then rs else af y,IZ,rfl,r,(s6.trans s9).upd hhT,?_,?_,⟨⟨_,b_,?_,fun y hy=>?_⟩,?_,fun y hy=>?_⟩,Tx,?_,fun y hy=>aal _ (hS y hy)⟩
       ·rw[e_ (iX (s9 _ _ Q4) e6 (fun z=>by cases z))];exact s9 _ _ Q4
       ·exact Paired.jZ p4 fun _ _ z=>(z.same s9).upd e6 (fun _ z=>by cases z)
       ·rw[key,aar,e2,aar];rfl
       ·show ∃bb,iR (putK kvs (nk x) (V.ref p2)) (nk y)=some (V.ref bb)∧bb≠h∧H1 bb=none∧Bf _ bb (if y=x then rs else af y)
        rw[j8]
        by_cases e:y=x
        ·subst e
         rw[aap rfl,aap rfl]
         obtain⟨Qc,w1,w2⟩:=Xm
         exact⟨p2,rfl,TB,Xn,Qc,by rw[e_ TB];exact w1,w2⟩
        ·rw[aak (fun z=>e (pq z)),aak e]
         have hyS:y∈S:=(W9.mp hy).elim id fun z=>absurd (Tq.mp z) e
         obtain⟨bb,z1,z2,z3,Qc,z4,z5⟩:=e3 y hyS
         exact⟨bb,z1,z2,z3,Qc,by rw[e_ z2];exact s9 _ _ z4,z5⟩
       ·rw[aa0]
        exact⟨Xh,by simp,fun u hu w hw z=>Q5 (by rw[Tq.mp hw] at z;have z:u=x:=z;exact z▸hu)⟩
       ·show y∈ls.map (·.nm)∧(if y=x then rs else af y).Nodup∧∀m,m∈(if y=x then rs else af y)↔Ah ls m y
        by_cases e:y=x
        ·subst e
         rw[aap rfl]
         refine⟨Qg,NY,fun m=>?_⟩
         rw[hm2 m,Ah.last]
         constructor
         ·rintro⟨u,hu,z⟩
          have U2:=((Qe y).2 u).mp hu
          rcases z with z|z
          ·exact .inl (z▸U2)
          ·exact .inr ⟨u,((good u (Dm u hu)).2.2 m).mp z,U2⟩
         ·rintro(z|⟨u,z1,z2⟩)
          ·exact⟨m,((Qe y).2 m).mpr z,.inl rfl⟩
          ·have hu:=((Qe y).2 u).mpr z2
           exact⟨u,hu,.inr (((good u (Dm u hu)).2.2 m).mpr z1)⟩
        ·rw[aak e]
         exact good y ((W9.mp hy).elim id fun z=>absurd (Tq.mp z) e)
       ·exact NO.elim (fun z=>(W3.mp z).elim (fun z=>.inr (by rw[z];simp)) .inl) fun z=>.inr (aal _ z)
     ·
      have hys:(!ys.isEmpty)=true:=by
       cases ys with
       | nil=>exact absurd (aaK.mp Qh.symm) U4
       | cons _ _=>rfl
      refine JK hys ?_
      have Fb:=G6 r
      rw[ZD,abi,aae] at Fb
      have U5:=s7 _ _ Q4
      refine⟨_,rfl,.inl ⟨rfl,_,hE.of U5⟩,_,rfl,c,_,_,rfl,rfl,U5,by omega,?_⟩
      have hpc:p≠c:=(gj Q4 NX).symm
      refine⟨_,rfl,.inl ⟨rfl,_,hE.of b_⟩,_,rfl,c,p,_,_,rfl,rfl,b_,by rw[e_ hpc];exact b_,by rw[ZD];show IZ.length+1+ys.length≤_;omega,?_⟩
      refine⟨_,_,(Es sf S x).reverse++x::sk,S,af,_,rfl,r,((s6.trans s7).upd Tv).upd Tv,b_,?_,((D4.same s7).lst U5).lst b_,fun y hy=>?_,?_,hS⟩
      ·rw[List.reverse_append,List.reverse_reverse,abX]
       refine Paired.jZ (F:=lF (L2.upd H4 p (.lst ys))) (uG (iC (Paired.jZ p4 fun _ _ z=>z.same s7) ⟨t,rfl,s7 _ _ Q3⟩) (Paired.jZ pm fun _ _ z=>z.same s7)) fun _ _ z=>?_
       exact(z.upd U5 (fun _ z=>by cases z)).upd b_ (fun _ z=>by cases z)
      ·rcases W9.mp hy with hy|hy
       ·have hy:=(ZH.mp (List.mem_reverse.mp hy)).1
        exact(cl.sa (((Qe x).2 y).mp hy)).1
       ·exact Xg y hy
      ·exact NO.elim (fun z=>.inl (aaG _ z)) .inr
 ·rintro σ H2 ⟨v3,v4,v5,v6,S,af,rfl,s3,⟨⟨kvs,e1,e2,e3⟩,Xh,good⟩,hS⟩
  rw[Tj,hlen,aas] at hS
  refine⟨_,rfl,q h _ (s1.trans s3) (s1.free hh) ⟨kvs,e1,fun n hn=>?_⟩⟩
  obtain⟨l,hl,rfl⟩:=List.mem_map.mp hn
  obtain⟨bb,z1,z2,z3,dk,z4,z5⟩:=e3 _ (hS l hl)
  exact⟨bb,dk,z1,z4,fun m=>by rw[tj,z5,sF];exact(good _ (hS l hl)).2.2 m⟩
theorem Kl{κ:Type}[DecidableEq κ]:∀{kvs:List (κ×V)} {i:Nat} {k:κ} {v:V},(kvs.map (·.1)).Nodup→kvs[i]?=some (k,v)→iR kvs k=some v
 | [],_,_,_,_,h=>by simp at h
 | p::r,i,k,v,nd,h=>by
  rw[aav,aaL] at nd
  cases i with
  | zero=>simp at h;subst h;exact jj rfl
  | succ i=>
   have h:r[i]?=some (k,v):=by simpa using h
   have hm:k∈r.map (·.1):=List.mem_map.mpr ⟨_,V_ h,rfl⟩
   rw[je (fun z=>nd.1 (by rw[z];exact hm))]
   exact Kl nd.2 h
theorem Km{κ:Type}[DecidableEq κ](kvs:List (κ×V))(k j:κ)(h:j≠k):iR (jT kvs k) j=iR kvs j:=by
 induction kvs with
 | nil=>rfl
 | cons p r ih=>
  by_cases e:p.1=k
  ·rw[wF e,ih,je (fun z=>h (z.symm.trans e))]
  ·rw[wG e]
   by_cases e2:p.1=j
   ·rw[jj e2,jj e2]
   ·rw[je e2,je e2,ih]
theorem Ij{kvs:List (List Key×V)}{rem:List Ln}{n:Nm}(h:kvs.map (·.1)=rem.map fun l=>nk l.nm):(jT kvs (nk n)).map (·.1)=(rem.filter fun o=>o.nm≠n).map fun l=>nk l.nm:=by
 induction kvs generalizing rem with
 | nil=>cases rem with|nil=>rfl|cons _ _=>cases h
 | cons p r ih=>
  cases rem with
  | nil=>cases h
  | cons x t=>
   rw[aav,aav] at h
   injection h with h1 h2
   by_cases e:x.nm=n
   ·rw[wF (by rw[h1,e]),aaj (by simpa using e)]
    exact ih h2
   ·rw[wG (fun z=>e (pq (h1.symm.trans z))),aab (by simpa using e),aav,aav,ih h2,h1]
structure Wait(kw:List (List Key×V))(rem:List Ln)(f:Ln→Nat):Prop where
 keys:kw.map (·.1)=rem.map fun l=>nk l.nm
 val:∀o∈rem,iR kw (nk o.nm)=some (.int (f o:Nat))
theorem Wait.len{kw:List (List Key×V)}{rem:List Ln}{f:Ln→Nat}(w:Wait kw rem f):kw.length=rem.length:=by
 have:=aa4 List.length w.keys
 rwa [Tj,Tj] at this
theorem Pa{rem:List Ln}:(rem.map fun l=>nk l.nm)=(rem.map (·.nm)).map nk:=by rw[List.map_map];rfl
theorem R_{xs:List Nm}(h:xs.Nodup):(xs.map nk).Nodup:=by
 induction xs with
 | nil=>exact aa6
 | cons x r ih=>
  rw[aaL] at h
  rw[aav,aaL]
  exact⟨fun z=>h.1 (sF.mp z),ih h.2⟩
theorem Wait.nd{kw:List (List Key×V)}{rem:List Ln}{f:Ln→Nat}(w:Wait kw rem f)(h:(rem.map (·.nm)).Nodup):(kw.map (·.1)).Nodup:=by rw[w.keys,Pa];exact R_ h
theorem Wait.get{kw:List (List Key×V)}{rem:List Ln}{f:Ln→Nat}(w:Wait kw rem f)(h:(rem.map (·.nm)).Nodup){i:Nat}{k:List Key}{v:V}(hi:kw[i]?=some (k,v)):∃o,rem[i]?=some o∧k=nk o.nm∧v=.int (f o:Nat):=by
 have h1:(kw.map (·.1))[i]?=some k:=by rw[aam,hi];rfl
 rw[w.keys,aam] at h1
 obtain⟨o,e,e2⟩:=Option.map_eq_some_iff.mp h1
 refine⟨o,e,e2.symm,?_⟩
 have h2:=Kl (w.nd h) hi
 rw[←e2,w.val o (V_ e)] at h2
 exact(aau h2).symm
def Wg:Sp:=fun vs H Q _=>∃(d:Addr)(kw:List (List Key×V))(rem:List Ln)(f:Ln→Nat)(l:Ln),vs=[.ref d]∧H d=some (.dT kw)∧Wait kw rem f∧(rem.map (·.nm)).Nodup∧rem.find? (fun o=>f o ==0)=some l∧∀t,H t=some (nT l.nm)→Q (.ref t) H
theorem Bg(T:Txt mg)(O:Ok K mg A):ip P w K mg base mU 1 A.vE A.vF ["waiting"] Wg:=by
 refine O.Ag.f.rl tO fun js A0 outer s H vs Q E hr h=>?_
 obtain⟨d,kw,rem,f,l,rfl,hd,W,nd,hf,q⟩:=h
 refine⟨_,(de (yZ (iH aaz rfl (zH (pv 0)) (tM 1 tO) (fT (iy (ik mH (zI hr (pv 0) (pv 1)) f_ (iE _)) (fT (h_ (pv 1))) hX))))
   (fT (h_ ug))),?_⟩
 refine JC ?_;intro _
 refine⟨_,rfl,d,kw,rfl,hd,fun o uz=>?_⟩
 let Jv:=fun(i:Nat) (σ:St) (H2:Hp)=>∃(v:Option V),σ=[rr d,v]∧H2=L2.upd H d (.nA o (.dT kw))∧(rem.drop i).find? (fun o=>f o ==0)=some l
 refine BN (d:=d) (o:=o) (kvs:=kw) Jv ⟨none,rfl,rfl,hf⟩ (by rintro _ _ _ ⟨_,_,e,_⟩;subst e;exact b_) ?_ ?_
 ·rintro i k v t σ H2 hi ht ⟨v0,rfl,rfl,h1⟩
  obtain⟨x,hx,rfl,rfl⟩:=W.get nd hi
  have kU:i<rem.length:=(List.getElem?_eq_some_iff.mp hx).1
  have hdr:rem.drop i=x::rem.drop (i+1):=by rw[aaQ kU];congr 1;exact(List.getElem?_eq_some_iff.mp hx).2
  rw[hdr] at h1
  refine⟨_,rfl,_,rfl,d,_,rfl,.inr ⟨kw,nk x.nm,t,.inr ⟨o,b_⟩,rfl,ht,(W.val x (V_ hx)).symm⟩,rfl,_,rfl,?_⟩
  refine lE (fun h=>?_) (fun h=>?_)
  ·have h:f x=0:=by have:=V.int.inj (aaA h);omega
   rw[List.find?_cons_of_pos (by simpa using h)] at h1
   cases h1
   refine⟨_,rfl,d,o,_,b_,uz,?_⟩
   rw[wM hd]
   exact q t (by
    have:t≠d:=fun z=>by rw[z,b_] at ht;cases ht
    rwa [e_ this] at ht)
  ·have h:¬f x=0:=fun z=>h (ZF (by rw[z];rfl))
   rw[List.find?_cons_of_neg (by simpa using h)] at h1
   exact⟨_,rfl,rfl,h1⟩
 ·rintro σ H2 ⟨v0,rfl,rfl,h1⟩
  rw[W.len,ach] at h1
  cases h1
end
section
open Classical
noncomputable def oG(lt:Nm→Nm→Prop)(rem:List Ln)(l:Ln):Nat:=(rem.filter fun o=>decide (lt o.nm l.nm)).length
theorem Kn(lt:Nm→Nm→Prop)(rem:List Ln):(fun o=>oG lt rem o ==0)=free lt rem:=by
 funext o
 unfold oG free
 rw[abG,ab2,aaK,ab3,aa2]
 exact⟨fun h x hx=>by simpa using h x hx,fun h x hx=>by simpa using h x hx⟩
theorem Ko{lt:Nm→Nm→Prop}{rem:List Ln}(nd:(rem.map (·.nm)).Nodup){l:Ln}(hl:l∈rem)(o:Ln):oG lt rem o=oG lt (rem.filter fun x=>x.nm≠l.nm) o+if lt l.nm o.nm then 1 else 0:=by
 unfold oG
 induction rem with
 | nil=>cases hl
 | cons x r ih=>
  rw[aav,aaL] at nd
  rcases W3.mp hl with rfl|hl
  ·have e:r.filter (fun x=>decide (x.nm≠l.nm))=r:=List.filter_eq_self.mpr fun y hy=>ZF fun z=>nd.1 (z▸Wc hy)
   rw[aaj (p:=fun x:Ln=>decide (x.nm≠l.nm)) (by simp),e]
   by_cases h:lt l.nm o.nm
   ·rw[aab (by simpa using h),aap h,aae]
   ·rw[aaj (by simpa using h),aak h,Nat.add_zero]
  ·have hx:x.nm≠l.nm:=fun z=>nd.1 (z▸Wc hl)
   rw[aab (p:=fun x:Ln=>decide (x.nm≠l.nm)) (by simpa using hx)]
   by_cases h:lt x.nm o.nm
   ·rw[aab (by simpa using h),aab (by simpa using h),aae,aae,ih nd.2 hl];omega
   ·rw[aaj (by simpa using h),aaj (by simpa using h),ih nd.2 hl]
end
theorem Kq{lt:Nm→Nm→Prop}{n:Nat}{rem:List Ln}{l:Ln}(h:rem.find? (free lt rem)=some l):n4 lt (n+1) rem=l::n4 lt n (rem.filter fun o=>o.nm≠l.nm):=by
 rw[n4,h]
section
variable{P:Program}{w:World}{K:Qqy}{mg:Qqx}{base:Heap}{A:Ad}
def Sb(A:Ad):Sp:=fun vs H Q _=>∃(a h:Addr)(ls al:List Ln),vs=[.ref a,.ref h]∧oC A H a ls∧C1 H h al∧wy ls.length∧(ls.map (·.nm)).Nodup∧(∀l∈ls,l.nm∈al.map (·.nm))∧J6 al∧
 ∀p H',gm H H'→H p=none→oC A H' p (rowOf (Ah al) ls)→Q (.ref p) H'
theorem Ik(T:Txt mg)(O:Ok K mg A):ip P w K mg base mU 2 A.EH A.EI ["lines","ahead"] (Sb A):=by
 have Dr:=@Bg P w K mg base A T O
 refine O.Kf.f.rl ly fun js A0 outer s H vs Q E hr h=>?_
 obtain⟨a,h,ls,al,rfl,⟨as,ha,pa⟩,⟨kh,TC,hh2⟩,j0,nd,Bu,tp,q⟩:=h
 have hlen:=aaq pa
 have yT:ls.length≤4000:=j0
 have sz:sizeLine=16777216:=aaB
 have tpl:∃rk:Nm→Nat,∀m n,Ah al m n→rk m<rk n:=by obtain⟨rk,r⟩:=tp;exact⟨rk,fun m n z=>r.ah z⟩
 refine⟨_,(de (lx 2 ly mJ)
   (de (lx 3 ly mJ)
   (de (iH aaz rfl (iq (pv 0)) (iF (i:=4) ly.nd rfl (Or.inr rfl)) (de (jy (by exact iY hr) (pv 2) (gE (pv 4) rfl) (pv 4) rfl)
   (fT (jy (by exact iY hr) (pv 3) (gE (pv 4) rfl) (gF gz (by rfl) T.jH aay (a_ (zy Ew (gc vk).names [7] rfl (iq (pv 0)) rfl (by decide+kernel) (fun _ _ _ _=>(iF (i:=7) ly.nd rfl (Or.inl rfl))) (fun _ _ _ _=>⟨_,qi (jt (ph (by exact iY hr) (gE (pv 7) rfl) (zI hr (pv 1) (gE (pv 4) rfl)))),by(try simp only [lJ]);rfl⟩) (fun _ _ _ _=>A6 (pv 7))) d_)) rfl))))
   (de (lx 5 ly (iW d_))
   (de (DY aaz (HY (pv 3) (fun _=>rfl)) (de (lx 6 ly (ml O.Ag Dr hr (a_ (pv 3) d_)))
   (de (g_ (JY (by exact iY hr) (pv 3) (pv 6) ⟨rfl,rfl,rfl,rfl⟩))
   (de (g_ (qR aaM aaY aaZ kO (pv 5) (a_ (zI hr (pv 2) (pv 6)) d_)))
   (fT (iH aaz rfl (iq (BD (yI rfl) (by rfl) T.zX ab4 (a_ (pv 3) d_))) (tM 7 ly) (fT (iy (jt (ph (by exact iY hr) (pv 6) (zI hr (pv 1) (pv 7)))) (fT (jy (by exact iY hr) (pv 3) (pv 7) (gs pf (zI hr (pv 3) (pv 7)) f_) rfl)) hX))))))))
   (fT (h_ (pv 5)))))))),?_⟩
 refine RU ?_;intro _ _ _ _ _
 intro bn TF wt Q6
 have s1:gm H (L2.upd (L2.upd H bn (.dT [])) wt (.dT [])):=((gm.refl H).new TF).new Q6
 have Qi:H wt=none:=((gm.refl H).new (o:=.dT []) TF).free Q6
 have TH:bn≠wt:=fun z=>by rw[z,b_] at Q6;cases Q6
 dsimp only [ma];refine IT ?_;intro _
 let Jv:=fun(i:Nat) (σ:St) (H2:Hp)=>∃(v4:Option V)(kb kw:List (List Key×V)),σ=[rr a,rr h,rr bn,rr wt,v4,none,none,none]∧gm H H2∧H2 bn=some (.dT kb)∧H2 wt=some (.dT kw)∧kb.length≤i∧(∀l∈ls.take i,∃b,iR kb (nk l.nm)=some (.ref b)∧mQ A H b l)∧Wait kw (ls.take i) (oG (Ah al) ls)
 refine⟨_,rfl,a,rfl,⟨_,hE.of (s1 _ _ ha)⟩,i0 (K:=K) (a:=a) (xs:=as.map V.ref) Jv
  ⟨none,[],[],rfl,s1,by rw[e_ TH];exact b_,b_,ZA _,(fun l hl=>by rw[abx] at hl;cases hl),⟨rfl,(fun l hl=>by rw[abx] at hl;cases hl)⟩⟩ (by rintro _ _ _ _ ⟨_,_,_,_,s3,_⟩;exact hE.of (s3 _ _ ha)) ?_ ?_⟩
 ·rintro i v σ H2 hx ⟨v4,kb,kw,rfl,s3,h1,h2,h3,h4,W⟩
  obtain⟨b,hb,rfl⟩:=j7 hx
  obtain⟨l,hl,dx,vn,vu,vl,g1,⟨t,rfl,g2⟩,g3,g4⟩:=iw pa hb
  have U6:l∈ls:=V_ hl
  have hi:i<ls.length:=(List.getElem?_eq_some_iff.mp hl).1
  have AD:∀x∈ls.take i,x.nm≠l.nm:=fun x hx z=>by
   obtain⟨j,hj⟩:=aaO.mp hx
   have IL:j<i:=by have:=(List.getElem?_eq_some_iff.mp hj).1;rw[aaD] at this;omega
   rw[abN,aap IL] at hj
   have e1:(ls.map (·.nm))[j]?=some l.nm:=by rw[aam,hj,←z];rfl
   have e2:(ls.map (·.nm))[i]?=some l.nm:=by rw[aam,hl];rfl
   have:=(abF (List.getElem?_eq_some_iff.mp e1).1 nd).mp (e1.trans e2.symm)
   omega
  obtain⟨bb,dk,z1,z2,z3⟩:=hh2 l.nm (Bu l U6)
  have WZ:=jq kb (nk l.nm) (V.ref b)
  refine⟨_,rfl,_,rfl,_,rfl,b,A.hU,dx,_,_,rfl,s3 _ _ g1,O.iQ,O.hG,i7,bn,_,rfl,nK.t (k:=nk l.nm) h1 (s3 _ _ g2) (by omega),?_⟩
  have s4:gm H (L2.upd H2 bn (.dT (putK kb (nk l.nm) (V.ref b)))):=s3.upd TF
  have MY:L2.upd H2 bn (.dT (putK kb (nk l.nm) (V.ref b))) bn=some (.dT (putK kb (nk l.nm) (V.ref b))):=b_
  have h2':L2.upd H2 bn (.dT (putK kb (nk l.nm) (V.ref b))) wt=some (.dT kw):=by rw[e_ TH.symm];exact h2
  generalize L2.upd H2 bn (.dT (putK kb (nk l.nm) (V.ref b)))=H3 at s4 MY h2' ⊢
  refine⟨_,rfl,a,rfl,⟨_,hE.of (s4 _ _ ha)⟩,kx (K:=K) (a:=a) (xs:=as.map V.ref) (by rw[Tj,hlen];omega) (fun j ys σ H4=>∃v7:Option V,σ=[rr a,rr h,rr bn,rr wt,rr b,none,none,v7]∧H4=H3∧ys.length=oG (Ah al) (ls.take j) l)
   ⟨none,rfl,rfl,rfl⟩ (by rintro _ _ _ _ _ ⟨_,_,e,e2⟩;subst e;exact⟨hE.of (s4 _ _ ha),by rw[e2];unfold oG;exact aac (aaN _ _) (by rw[aaD];omega)⟩) ?_ ?_⟩
  ·rintro j v ys σ H4 hx ⟨v7,rfl,rfl,e2⟩
   obtain⟨b2,Lg,rfl⟩:=j7 hx
   obtain⟨l2,K9,dx2,vn2,vu2,vl2,k1,⟨t2,rfl,k2⟩,k3,k4⟩:=iw pa Lg
   refine⟨_,rfl,b2,A.hU,dx2,_,_,rfl,s4 _ _ k1,O.iQ,O.hG,i7,_,rfl,_,rfl,b,A.hU,dx,_,_,rfl,s4 _ _ g1,O.iQ,O.hG,i7,h,.ref bb,rfl,?_,bb,_,rfl,ja.t (k:=nk l2.nm) (s4 _ _ z2) (s4 _ _ k2),_,rfl,?_⟩
   ·have:=ja.t (k:=nk l.nm) (s4 _ _ TC) (s4 _ _ g2)
    rw[z1] at this
    exact this
   ·unfold oG at e2 ⊢
    rw[take_snoc K9,aaF,ZD]
    by_cases hm:Ah al l2.nm l.nm
    ·rw[(z3 l2.nm).mpr hm]
     refine l7 ⟨_,rfl,_,rfl,rfl,?_⟩
     rw[aab (by simpa using hm),aaX,ZD,e2];rfl
    ·rw[abE.mpr fun z=>hm ((z3 l2.nm).mp z)]
     refine jz ⟨_,rfl,rfl,?_⟩
     rw[aaj (by simpa using hm),aaX,e2];rfl
  ·rintro ys σ H4 ⟨v7,rfl,rfl,e2⟩ p hp
   rw[Tj,hlen,aas] at e2
   have s5:=s4.new (o:=.lst ys) hp
   have IW:=W.len
   rw[aaD] at IW
   refine⟨p,_,rfl,.inl (hE.of b_),_,rfl,_,rfl,b,A.hU,dx,_,_,rfl,s5 _ _ g1,O.iQ,O.hG,i7,wt,_,rfl,nK.t (k:=nk l.nm) (il hp h2') (s5 _ _ g2) (by omega),?_⟩
   refine⟨_,_,_,rfl,s5.upd Qi,by rw[e_ TH];exact il hp MY,b_,by omega,fun x hx=>?_,⟨?_,fun x hx=>?_⟩⟩
   ·rw[take_snoc hl] at hx
    rcases W9.mp hx with hx|hx
    ·obtain⟨c,c1,c2⟩:=h4 x hx
     exact⟨c,by rw[j8,aak (fun z=>AD x hx (pq z))];exact c1,c2⟩
    ·rw[Tq.mp hx]
     exact⟨b,by rw[j8,aap rfl],dx,_,vu,vl,g1,⟨t,rfl,g2⟩,g3,g4⟩
   ·rw[qb,W.keys,take_snoc hl,aar]
    exact aak fun z=>by
     obtain⟨x,hx,e⟩:=List.mem_map.mp z
     exact AD x hx (pq e)
   ·rw[take_snoc hl] at hx
    rw[j8]
    rcases W9.mp hx with hx|hx
    ·rw[aak (fun z=>AD x hx (pq z))];exact W.val x hx
    ·rw[Tq.mp hx,aap rfl,e2]
 ·rintro σ H2 ⟨v4,kb,kw,rfl,s3,h1,h2,h3,h4,W⟩
  have el:(as.map V.ref).length=ls.length:=by rw[Tj];exact hlen
  rw[el,aas] at h4 W
  refine⟨L2.j0,fun r sS=>?_⟩
  have hrH:H r=none:=s3.free sS
  have hrb:bn≠r:=gj h1 sS
  have Qj:wt≠r:=gj h2 sS
  obtain⟨rk,Qa⟩:=tpl
  refine⟨fun m σ H3=>∃(v6 v7:Option V)(kw:List (List Key×V))(rem row:List Ln)(rs:List Addr),m=rem.length∧σ=[rr a,rr h,rr bn,rr wt,v4,rr r,v6,v7]∧gm H H3∧H3 bn=some (.dT kb)∧H3 wt=some (.dT kw)∧H3 r=some (.lst (rs.map V.ref))∧Paired (mQ A H) rs row∧Wait kw rem (oG (Ah al) rem)∧rem.Sublist ls∧row.length+rem.length=ls.length∧row++n4 (Ah al) rem.length rem=rowOf (Ah al) ls,
   ⟨ls.length,none,none,kw,ls,[],[],rfl,rfl,s3.new sS,il sS h1,il sS h2,b_,.nil,W,aaH _,by simp,rfl⟩,?_⟩
  rintro m σ H3 ⟨v6,v7,kw,rem,row,rs,rfl,rfl,s4,b1,w1,r1,pr,W,sub,hsum,Fc⟩
  have U7:(rem.map (·.nm)).Nodup:=(sub.map _).nodup nd
  refine⟨_,rfl,wt,kw,rfl,w1,?_⟩
  have IW:=W.len
  cases rem with
  | nil=>
   have:kw=[]:=aaK.mp IW
   subst this
   refine jz ⟨_,rfl,q r _ s4 hrH ⟨rs,r1,?_⟩⟩
   rw[show n4 (Ah al) ([]:List Ln).length []=[] from rfl,aaa] at Fc
   rw[←Fc]
   exact Paired.jZ pr fun _ _ z=>z.same s4
  | cons x0 Xo=>
   generalize Xp:x0::Xo=rem at *
   have oy:rem≠[]:=by rw[←Xp];exact fun z=>by cases z
   obtain⟨l,Lh⟩:=xN (lt:=Ah al) Qa rem oy
   have Qk:l∈rem:=List.mem_of_find?_eq_some Lh
   have Xq:l∈ls:=sub.subset Qk
   have NZ:=pO U7 Qk
   refine JK (by cases kw with|nil=>exact absurd (aaK.mp IW.symm) oy|cons _ _=>rfl) ?_
   refine⟨fun σ H4=>∃(v6 v7:Option V)(kw:List (List Key×V))(l_ row:List Ln)(rs:List Addr),l_.length<rem.length∧σ=[rr a,rr h,rr bn,rr wt,v4,rr r,v6,v7]∧gm H H4∧H4 bn=some (.dT kb)∧H4 wt=some (.dT kw)∧H4 r=some (.lst (rs.map V.ref))∧Paired (mQ A H) rs row∧Wait kw l_ (oG (Ah al) l_)∧l_.Sublist ls∧row.length+l_.length=ls.length∧row++n4 (Ah al) l_.length l_=rowOf (Ah al) ls,
    fun σ' H' ⟨u6,u7,TJ,l_,Xr,rs2,kU,z⟩=>⟨l_.length,kU,u6,u7,TJ,l_,Xr,rs2,rfl,z⟩,?_⟩
   refine⟨_,rfl,wt,kw,rem,oG (Ah al) rem,l,rfl,w1,W,U7,by rw[Kn];exact Lh,fun t ht=>?_⟩
   have Dq:=W.val l Qk
   refine⟨_,rfl,wt,rfl,.inr ⟨_,.inl w1⟩,_,rfl,t,kw,nk l.nm,_,rfl,w1,ht,Dq,?_⟩
   have s5:gm H (L2.upd H3 wt (.dT (jT kw (nk l.nm)))):=s4.upd Qi
   have b2:L2.upd H3 wt (.dT (jT kw (nk l.nm))) bn=some (.dT kb):=by rw[e_ TH];exact b1
   have r2:L2.upd H3 wt (.dT (jT kw (nk l.nm))) r=some (.lst (rs.map V.ref)):=by rw[e_ Qj.symm];exact r1
   have t2:L2.upd H3 wt (.dT (jT kw (nk l.nm))) t=some (nT l.nm):=by rw[e_ (iX ht w1 (fun z=>by cases z))];exact ht
   have w2:L2.upd H3 wt (.dT (jT kw (nk l.nm))) wt=some (.dT (jT kw (nk l.nm))):=b_
   have W2:Wait (jT kw (nk l.nm)) (rem.filter fun o=>o.nm≠l.nm) (oG (Ah al) rem):=⟨Ij W.keys,fun o ho=>by
    have qJ:=ZH.mp ho
    rw[Km _ _ _ (fun z=>by have:=pq z;simpa[this] using qJ.2)]
    exact W.val o qJ.1⟩
   generalize L2.upd H3 wt (.dT (jT kw (nk l.nm)))=H4 at s5 b2 r2 t2 w2 ⊢
   generalize jT kw (nk l.nm)=TJ at w2 W2
   obtain⟨bl,NQ,hLn⟩:=h4 l Xq
   have Xs:=aaq pr
   refine⟨_,rfl,.inl ⟨rfl,_,hE.of r2⟩,_,rfl,_,rfl,bn,.ref bl,rfl,?_,r,_,_,rfl,rfl,r2,by rw[Tj,Xs];omega,?_⟩
   ·have:=ja.t (k:=nk l.nm) b2 t2
    rw[NQ] at this
    exact this
   have s6:gm H (L2.upd H4 r (.lst (rs.map V.ref++[V.ref bl]))):=s5.upd hrH
   have b3:L2.upd H4 r (.lst (rs.map V.ref++[V.ref bl])) bn=some (.dT kb):=by rw[e_ hrb];exact b2
   have w3:L2.upd H4 r (.lst (rs.map V.ref++[V.ref bl])) wt=some (.dT TJ):=by rw[e_ Qj];exact w2
   have t3:L2.upd H4 r (.lst (rs.map V.ref++[V.ref bl])) t=some (nT l.nm):=by rw[e_ (iX t2 r2 (fun z=>by cases z))];exact t2
   have r3:L2.upd H4 r (.lst (rs.map V.ref++[V.ref bl])) r=some (.lst ((rs++[bl]).map V.ref)):=by rw[b_,aar];rfl
   generalize L2.upd H4 r (.lst (rs.map V.ref++[V.ref bl]))=H5 at s6 b3 w3 t3 r3 ⊢
   have Hv:(rem.filter fun o=>o.nm≠l.nm).Sublist rem:=aaS
   generalize hR:(rem.filter fun o=>decide (o.nm≠l.nm))=l_ at W2 Hv NZ
   have TK:(l_.map (·.nm)).Nodup:=(Hv.map _).nodup U7
   refine⟨_,rfl,wt,TJ,rfl,w3,fun p bs hp pbs=>?_⟩
   have s7:=s6.new (o:=.lst (bs.map V.ref)) hp
   have Xt:=aaq pbs
   have Xm:=W2.len
   let Jv:=fun(j:Nat) (σ:St) (H6:Hp)=>∃(v7:Option V)(Li:List (List Key×V)),σ=[rr a,rr h,rr bn,rr wt,v4,rr r,rr t,v7]∧gm H H6∧H6 bn=some (.dT kb)∧H6 wt=some (.dT Li)∧H6 t=some (nT l.nm)∧H6 r=some (.lst ((rs++[bl]).map V.ref))∧H6 p=some (.lst (bs.map V.ref))∧(∀b∈bs,∀xs,H5 b=some (.tup xs)→H6 b=some (.tup xs))∧Li.map (·.1)=l_.map (fun l=>nk l.nm)∧∀(i:Nat)(o:Ln),l_[i]?=some o→iR Li (nk o.nm)=some (.int ((if i<j then oG (Ah al) l_ o else oG (Ah al) rem o:Nat):Int))
   refine⟨p,rfl,⟨_,hE.of b_⟩,i0 (K:=K) (a:=p) (xs:=bs.map V.ref) Jv
    ⟨v7,TJ,rfl,s7,il hp b3,il hp w3,il hp t3,il hp r3,b_,fun b _ xs e=>il hp e,W2.keys,fun i o ho=>by rw[aak (by omega)];exact W2.val o (V_ ho)⟩ (by rintro _ _ _ _ ⟨_,_,_,_,_,_,_,_,e,_⟩;exact hE.of e) ?_ ?_⟩
   ·rintro j v σ H6 hx ⟨v7,Li,rfl,s8,b4,w4,t4,r4,p4,M8,Cj,Lj⟩
    obtain⟨c,hc,rfl⟩:=j7 hx
    obtain⟨⟨k,v⟩,hkv,Xu⟩:=lB pbs hc
    obtain⟨o,ho,rfl,rfl⟩:=W2.get TK hkv
    have Ql:o∈rem:=Hv.subset (V_ ho)
    have Xv:H6 c=some (nT o.nm):=M8 c (V_ hc) _ Xu
    obtain⟨bb,dk,z1,z2,z3⟩:=hh2 o.nm (Bu o (sub.subset Ql))
    have Cg:=Ko (lt:=Ah al) U7 Qk o
    have upv:∀(TL:List (List Key×V)),TL.map (·.1)=l_.map (fun l=>nk l.nm)→(∀x∈l_,x.nm≠o.nm→iR TL (nk x.nm)=iR Li (nk x.nm))→iR TL (nk o.nm)=some (.int ((oG (Ah al) l_ o:Nat):Int))→∀(i:Nat)(x:Ln),l_[i]?=some x→iR TL (nk x.nm)=some (.int ((if i<j+1 then oG (Ah al) l_ x else oG (Ah al) rem x:Nat):Int)):=fun TL _ h1 h2 i x TM=>by
     by_cases e:i=j
     ·subst e
      rw[ho] at TM
      cases TM
      rw[aap (acf _)]
      exact h2
     ·have Xw:x.nm≠o.nm:=fun z=>by
       have e1:(l_.map (·.nm))[i]?=some o.nm:=by rw[aam,TM,←z];rfl
       have e2:(l_.map (·.nm))[j]?=some o.nm:=by rw[aam,ho];rfl
       exact e ((abF (List.getElem?_eq_some_iff.mp e1).1 TK).mp (e1.trans e2.symm))
      rw[h1 x (V_ TM) Xw,Lj i x TM]
      by_cases W6:i<j
      ·rw[aap W6,aap (by omega)]
      ·rw[aak W6,aak (by omega)]
    rw[hR] at Cg
    refine⟨_,rfl,_,rfl,_,rfl,h,.ref bb,rfl,?_,bb,_,rfl,ja.t (k:=nk l.nm) (s8 _ _ z2) t4,_,rfl,?_⟩
    ·have:=ja.t (k:=nk o.nm) (s8 _ _ TC) Xv
     rw[z1] at this
     exact this
    by_cases hm:Ah al l.nm o.nm
    ·rw[(z3 l.nm).mpr hm]
     rw[aap hm] at Cg
     refine l7 ?_
     have TN:=Lj j o ho
     rw[aak (abm _)] at TN
     have hg:ja H6 wt (.ref c) (some (.int ((oG (Ah al) rem o:Nat):Int))):=by
      have:=ja.t (k:=nk o.nm) w4 Xv
      rw[TN] at this
      exact this
     have hk3:Li.length=l_.length:=by have:=aa4 List.length Cj;rwa [Tj,Tj] at this
     refine⟨_,rfl,_,rfl,wt,_,rfl,hg,_,_,rfl,rfl,_,rfl,_,rfl,wt,_,rfl,nK.t (k:=nk o.nm) w4 Xv (by omega),?_⟩
     have kk:(putK Li (nk o.nm) (V.int ((oG (Ah al) rem o:Nat)-1))).map (·.1)=l_.map (fun l=>nk l.nm):=by
      rw[qb,Cj]
      exact aap (List.mem_map.mpr ⟨o,V_ ho,rfl⟩)
     refine⟨_,_,rfl,s8.upd Qi,by rw[e_ TH];exact b4,b_,by rw[e_ (iX t4 w4 (fun z=>by cases z))];exact t4,by rw[e_ Qj.symm];exact r4,by rw[e_ (iX p4 w4 (fun z=>by cases z))];exact p4,fun b hb xs e=>?_,kk,upv _ kk (fun x _ Xw=>?_) ?_⟩
     ·have:=M8 b hb xs e
      rw[e_ (iX this w4 (fun z=>by cases z))];exact this
     ·rw[j8,aak (fun z=>Xw (pq z))]
     ·rw[j8,aap rfl]
      have e9:((oG (Ah al) rem o:Nat):Int)-1=((oG (Ah al) l_ o:Nat):Int):=by omega
      exact aa4 (fun z=>some (V.int z)) e9
    ·rw[abE.mpr fun z=>hm ((z3 l.nm).mp z)]
     rw[aak hm] at Cg
     refine jz ⟨_,Li,rfl,s8,b4,w4,t4,r4,p4,M8,Cj,upv Li Cj (fun x _ _=>rfl) ?_⟩
     have TN:=Lj j o ho
     rw[aak (abm _)] at TN
     rw[TN,Cg,Nat.add_zero]
   ·rintro σ H6 ⟨v7,Li,rfl,s8,b4,w4,t4,r4,p4,M8,Cj,Lj⟩
    have hlen2:(bs.map V.ref).length=l_.length:=by rw[Tj,←Xt,Xm]
    refine⟨_,_,Li,l_,row++[l],rs++[bl],by omega,rfl,s8,b4,w4,r4,iC pr hLn,⟨Cj,fun o ho=>?_⟩,Hv.trans sub,by rw[ZD];show row.length+1+l_.length=_;omega,?_⟩
    ·obtain⟨i,hi⟩:=aaO.mp ho
     have QZ:=(List.getElem?_eq_some_iff.mp hi).1
     rw[Lj i o hi,aap (by omega)]
    ·rw[←Fc,←NZ,Kq Lh,aaw,hR]
     rfl
end
end PK
namespace Kp
open PySem L2
noncomputable abbrev UL:Stmt:=PK.pj
noncomputable abbrev UM:Stmt:=PK.qo
noncomputable abbrev Wh:Stmt:=PK.qp
noncomputable abbrev NA:Stmt:=PK.Ga
structure Txt(mg:Qqx):Prop where
 len:mg "len"=none
 range:mg "range"=none
 max:mg "max"=none
noncomputable abbrev gp(l:List Str):List V:=l.map V.str
noncomputable def tab(old new:List Str)(i:Nat):List V:=(List.range (new.length+1)).map fun j=>V.int (K01.wO old new i j)
theorem C3{old new:List Str}{i j:Nat}(h:j≤new.length):(tab old new i)[j]?=some (V.int (K01.wO old new i j)):=by
 unfold tab
 rw[aam,List.getElem?_range (by omega)]
 rfl
noncomputable def part(old new:List Str)(i k:Nat):List V:=(List.range (new.length+1)).map fun j=>if new.length-k≤j then V.int (K01.wO old new i j) else V.int 0
theorem G7{old new:List Str}{i k j:Nat}(h:j≤new.length)(hk:new.length-k≤j):(part old new i k)[j]?=some (V.int (K01.wO old new i j)):=by
 unfold part
 rw[aam,List.getElem?_range (by omega)]
 show some (if _ then _ else _)=_
 rw[aap hk]
theorem An(old new:List Str)(i k:Nat):(part old new i k).length=new.length+1:=by unfold part;rw[Tj,ace]
theorem Kr(old new:List Str)(i:Nat):part old new i new.length=tab old new i:=by
 unfold part tab
 refine abZ fun j _=>?_
 rw[aap (by omega)]
theorem B0(old new:List Str)(i n:Nat)(h:n=new.length+1):(List.replicate n [V.int 0]).flatten=part old new i 0:=by
 subst h
 refine List.ext_getElem? fun j=>?_
 unfold part
 rw[aam]
 have e:(List.replicate (new.length+1) [V.int 0]).flatten=List.replicate (new.length+1) (V.int 0):=by
  generalize new.length+1=m
  induction m with
  | zero=>rfl
  | succ m ih=>rw[aa8,abU,ih,aa8];rfl
 rw[e,List.getElem?_replicate]
 by_cases hj:j<new.length+1
 ·rw[aap hj,List.getElem?_range hj]
  show some _=some (if _ then _ else _)
  by_cases h2:new.length-0≤j
  ·rw[aap h2,K01.y0 (.inr (by omega))];rfl
  ·rw[aak h2]
 ·rw[aak hj,List.getElem?_eq_none_iff.mpr (by rw[ace];omega)]
  rfl
theorem ET{old new:List Str}{i k:Nat}(h:k<new.length):(part old new i k).set (new.length-1-k) (V.int (K01.wO old new i (new.length-1-k)))=part old new i (k+1):=by
 refine List.ext_getElem? fun j=>?_
 by_cases e:j=new.length-1-k
 ·subst e
  rw[abd (by rw[An];omega),G7 (by omega) (by omega)]
 ·rw[abn (fun z=>e z.symm)]
  unfold part
  rw[aam,aam]
  by_cases hj:j<new.length+1
  ·rw[List.getElem?_range hj]
   show some (if _ then _ else _)=some (if _ then _ else _)
   by_cases h2:new.length-k≤j
   ·rw[aap h2,aap (by omega)]
   ·rw[aak h2,aak (by omega)]
  ·rw[List.getElem?_eq_none_iff.mpr (by rw[ace];omega)]
   rfl
theorem oO{l:List Str}{j:Nat}{x:Str}(h:l[j]?=some x):(gp l)[j]?=some (V.str x):=by rw[aam,h];rfl
section
variable{P:Program}{w:World}{K:Qqy}{mg:Qqx}{base:Heap}
theorem Pb:gB ["text","new","below","counts","second"] ["text","new","below"] (gc UL):=⟨rfl,rfl,rfl,by decide+kernel,rfl,by decide+kernel,by decide+kernel⟩
def Sd:Sp:=fun vs H Q _=>∃(old new:List Str)(i:Nat)(t:Str)(n b:Addr),vs=[.str t,.ref n,.ref b]∧old[i]?=some t∧H n=some (.lst (gp new))∧H b=some (.lst (tab old new (i+1)))∧new.length≤1000∧
 ∀p H',gm H H'→H p=none→H' p=some (.lst (tab old new i))→Q (.ref p) H'
theorem Se{f:Addr}{fd:FuncData}(F:xI K "counts_with" "counts_with" UL f fd)(T:Txt mg):ip P w K mg base mU 1 f fd ["text","new","below"] Sd:=by
 refine F.rl Pb fun js A outer s H vs Q E hr h=>?_
 obtain⟨old,new,i,t,n,b,rfl,ht,hn,hb,hl,k⟩:=h
 refine⟨_,de (mV (i:=3) Pb.nd rfl (Or.inl rfl) (gs FK (iW (a_ f_ d_)) (gs iI (gF gz (by rfl) T.len aay (a_ (pv 1) d_)) f_)))
  (de (iH aaz rfl (wI rfl T.range (a_ (gs pf (gF gz (by rfl) T.len aay (a_ (pv 1) d_)) f_) (a_ (xD rB f_) (a_ (xD rB f_) d_)))) (iF (i:=4) Pb.nd rfl (Or.inl rfl))
   (fT (iy (ik mH (jS kL (pv 1) (pv 4) (fun _ _=>rfl)) (pv 0) (iE _))
    (fT (ui (gs iI (jS kL (pv 2) (gs iI (pv 4) f_) (fun _ _=>rfl)) f_) (uh (pv 3) (pv 4) set_list)))
    (fT (ui (gF (HE rfl) (by rfl) T.max PyProof.Rows.boot_max (a_ (jS kL (pv 2) (pv 4) (fun _ _=>rfl)) (a_ (jS kL (pv 3) (gs iI (pv 4) f_) (fun _ _=>rfl)) d_))) (uh (pv 3) (pv 4) set_list))))))
  (fT (h_ (pv 3)))),?_⟩
 refine Fp ?_;intro _ _
 refine⟨j0,fun l Q1=>?_⟩
 have Qm:(upd H l (.lst [V.int 0])) n=some (.lst (gp new)):=by rw[e_ (gj hn Q1)];exact hn
 refine⟨_,rfl,n,_,rfl,.inl (hE.of Qm),_,_,rfl,rfl,l,_,_,rfl,rfl,b_,by simp<;>omega,by simp<;>omega,by simp;have:sizeLine=2 ^ 24:=rfl;omega,fun p hp=>?_⟩
 have qg:p≠l:=fun z=>by rw[z,b_] at hp;cases hp
 have Gy:H p=none:=by rw[e_ qg] at hp;exact hp
 have s0:gm H (upd H l (.lst [V.int 0])):=(gm.refl H).upd Q1
 have e0:(List.replicate (((gp new).length:Int)+1).toNat [V.int 0]).flatten=part old new i 0:=B0 old new i _ (by simp<;>omega)
 rw[e0]
 have s1:gm H (upd (upd H l (.lst [V.int 0])) p (.lst (part old new i 0))):=s0.upd Gy
 refine⟨_,rfl,n,_,rfl,.inl (hE.of (s1 n _ hn)),_,_,rfl,rfl,_,rfl,_,rfl,_,_,rfl,⟨by simp<;>omega,by simp<;>omega,by omega,by omega⟩,?_⟩
 have en:((((gp new).length:Int)-1) - -1).toNat=new.length:=by simp<;>omega
 rw[en]
 let Jv:=fun(m:Nat) (σ:St) (H2:Hp)=>∃v,σ=[rs t,rr n,rr b,rr p,v]∧gm H H2∧H2 p=some (.lst (part old new i m))
 refine uo Jv ⟨none,rfl,s1,b_⟩ ?_ ?_
 ·rintro m σ H2 hm ⟨v,rfl,s2,h2⟩
  obtain⟨j,hj⟩:∃j,j=new.length-1-m:=⟨_,rfl⟩
  have hjl:j<new.length:=by omega
  rw[show((gp new).length:Int)-1+(m:Int) * -1=(j:Int) by simp<;>omega]
  have Qn:new[j]?=some new[j]:=Wd hjl
  have B:=K01.Mh ht Qn
  refine⟨_,rfl,_,rfl,n,_,_,_,rfl,rfl,hE.of (s2 n _ hn),gH rfl (oO Qn),_,rfl,rfl,_,rfl,?_⟩
  refine lE (fun hc=>?_) (fun hc=>?_)
  ·have hc:new[j]=t:=by have:=aaA hc;injection this
   rw[aap hc] at B
   refine⟨_,rfl,_,rfl,_,_,rfl,rfl,b,_,_,_,rfl,rfl,hE.of (s2 b _ hb),gH (j:=j+1) (by omega) (C3 (by omega)),_,_,rfl,rfl,_,rfl,_,rfl,p,_,_,j,rfl,rfl,h2,CD rfl (by rw[An];omega),?_⟩
   refine⟨_,rfl,s2.upd Gy,?_⟩
   rw[b_]
   dsimp only
   have e:((K01.wO old new (i+1) (j+1):Nat):Int)+1=((K01.wO old new i j:Nat):Int):=by omega
   rw[e,hj,ET hm]
  ·have hc:¬new[j]=t:=fun z=>hc (by rw[z];exact ZF rfl)
   rw[aak hc] at B
   refine⟨_,rfl,_,rfl,b,_,_,_,rfl,rfl,hE.of (s2 b _ hb),gH rfl (C3 (by omega)),_,rfl,_,rfl,_,_,rfl,rfl,p,_,_,_,rfl,rfl,hE.of h2,gH (j:=j+1) (by omega) (G7 (by omega) (by omega)),_,_,rfl,_,rfl,_,rfl,p,_,_,j,rfl,rfl,h2,CD rfl (by rw[An];omega),?_⟩
   refine⟨_,rfl,s2.upd Gy,?_⟩
   rw[b_]
   have e:(if((K01.wO old new i (j+1):Nat):Int)>((K01.wO old new (i+1) j:Nat):Int) then((K01.wO old new i (j+1):Nat):Int) else((K01.wO old new (i+1) j:Nat):Int))=((K01.wO old new i j:Nat):Int):=by split<;>omega
   rw[e,hj,ET hm]
 ·rintro σ H2 ⟨v,rfl,s2,h2⟩
  refine⟨_,rfl,k p H2 s2 Gy ?_⟩
  rw[h2,Kr]
def NB(H:Hp)(old new:List Str)(rows:List V)(TQ:Nat):Prop:=rows.length=old.length+1∧∀i,i≤old.length→∃a,rows[i]?=some (.ref a)∧(TQ≤i→H a=some (.lst (tab old new i)))
noncomputable abbrev nMP:List Str:=["old","new","table","first","place"]
theorem Mw:gB ["old","new","table","first","place"] ["old","new"] (gc UM):=⟨rfl,rfl,rfl,by decide+kernel,rfl,by decide+kernel,by decide+kernel⟩
def Sf:Sp:=fun vs H Q _=>∃(old new:List Str)(o n:Addr),vs=[.ref o,.ref n]∧H o=some (.lst (gp old))∧H n=some (.lst (gp new))∧old.length≤1000∧new.length≤1000∧
 ∀p H' rows,gm H H'→H p=none→H' p=some (.lst rows)→NB H' old new rows 0→Q (.ref p) H'
theorem Ks(new:List Str)(n:Nat)(h:n=new.length+1):(List.replicate n [V.int 0]).flatten=tab [] new 0:=by
 rw[B0 [] new 0 n h]
 unfold part tab
 refine abZ fun j _=>?_
 rw[show K01.wO ([]:List Str) new 0 j=0 from K01.y0 (.inl (by simp))]
 split<;>rfl
theorem Mx(old new:List Str)(n:Nat)(h:n=new.length+1):(List.replicate n [V.int 0]).flatten=tab old new old.length:=by
 rw[Ks new n h]
 unfold tab
 refine abZ fun j _=>?_
 rw[show K01.wO ([]:List Str) new 0 j=0 from K01.y0 (.inl (by simp)),K01.y0 (.inl (ZA _))]
theorem Sg{f fC:Addr}{fd Q7:FuncData}(F:xI K "most_pairs" "most_pairs" UM f fd)(T:Txt mg)(C:xI K "counts_with" "counts_with" UL fC Q7)(bC:Binds K Q7 ["text","new","below"] [])(mC:mg "counts_with"=some (.ref fC)) :
  ip P w K mg base mU 2 f fd ["old","new"] Sf:=by
 have GC:ip P w K mg base mU 1 fC Q7 ["text","new","below"] Sd:=Se C T
 refine F.rl Mw fun js A outer s H vs Q E hr h=>?_
 obtain⟨old,new,o,n,rfl,ho,hn,WD,uJ,k⟩:=h
 refine⟨_,de (zx (j:=2) nMP (gc UM).names [4] Mw.nd rfl rfl rfl (kK rfl T.range (a_ (gs iI (gF gz (by rfl) T.len aay (a_ (pv 0) d_)) f_) d_)) rfl (by decide+kernel)
   (fun _ _ _ _=>iF (i:=4) Mw.nd rfl (Or.inl rfl)) (fun _ _ _ _=>mj) (fun _ _ _ _=>⟨_,gs FK (iW (a_ f_ d_)) (gs iI (gF gz (by rfl) T.len aay (a_ (pv 1) d_)) f_),by(try simp only [lJ]);rfl⟩))
  (de (iH aaz rfl (wI rfl T.range (a_ (gs pf (gF gz (by rfl) T.len aay (a_ (pv 0) d_)) f_) (a_ (xD rB f_) (a_ (xD rB f_) d_)))) (iF (i:=3) Mw.nd rfl (Or.inl rfl))
   (fT (ui (uZ GC hr rfl mC C.kp bC .nil pM (a_ (jS kL (pv 0) (pv 3) (fun _ _=>rfl)) (a_ (pv 1) (a_ (jS kL (pv 2) (gs iI (pv 3) f_) (fun _ _=>rfl)) d_)))) (uh (pv 2) (pv 3) set_list))))
  (fT (h_ (pv 2)))),?_⟩
 refine Fp ?_;intro _ _
 refine⟨_,rfl,o,_,rfl,.inl (hE.of ho),_,_,rfl,rfl,_,rfl,by simp<;>omega,by simp<;>omega,?_⟩
 have en:(((gp old).length:Int)+1).toNat=old.length+1:=by simp<;>omega
 rw[en]
 let Jv:=fun(m:Nat) (ys:List V) (σ:St) (H2:Hp)=>∃v,σ=[rr o,rr n,none,none,v]∧gm H H2∧ys.length=m∧∀i,i<m→∃a,ys[i]?=some (.ref a)∧H a=none∧H2 a=some (.lst (tab old new old.length))
 refine rE (by have:sizeLine=2 ^ 24:=rfl;omega) Jv
  ⟨none,rfl,gm.refl H,rfl,fun i hi=>absurd hi (Nat.not_lt_zero _)⟩ (by rintro _ _ _ _ ⟨_,_,_,e,_⟩;exact Nat.le_of_eq e) ?_ ?_
 ·rintro m ys σ H2 hm ⟨v,rfl,s2,hy,Dt⟩
  refine⟨j0,fun l Q1=>?_⟩
  have s3:gm H (upd H2 l (.lst [V.int 0])):=s2.new Q1
  refine⟨_,rfl,n,_,rfl,.inl (hE.of (s3 n _ hn)),_,_,rfl,rfl,l,_,_,rfl,rfl,b_,by simp<;>omega,by simp<;>omega,by simp;have:sizeLine=2 ^ 24:=rfl;omega,fun p hp=>?_⟩
  rw[Mx old new _ (show(((gp new).length:Int)+1).toNat=new.length+1 by simp<;>omega)]
  have qg:p≠l:=fun z=>by rw[z,b_] at hp;cases hp
  have zf:H2 p=none:=by rw[e_ qg] at hp;exact hp
  refine⟨_,rfl,s3.new hp,by rw[ZD,hy];rfl,fun i hi=>?_⟩
  by_cases e:i<m
  ·obtain⟨a,e1,e2,e3⟩:=Dt i e
   refine⟨a,by rw[abP (by omega)];exact e1,e2,?_⟩
   rw[e_ (gj e3 zf),e_ (gj e3 Q1)]
   exact e3
  ·have:i=m:=by omega
   subst this
   exact⟨p,by rw[aba (by omega),hy];simp,s2.free zf,b_⟩
 ·rintro ys σ H2 ⟨v,rfl,s2,hy,Dt⟩ p hp
  have s3:gm H (upd H2 p (.lst ys)):=s2.new hp
  have Gy:H p=none:=s2.free hp
  refine⟨_,rfl,o,_,rfl,.inl (hE.of (s3 o _ ho)),_,_,rfl,rfl,_,rfl,_,rfl,_,_,rfl,⟨by simp<;>omega,by simp<;>omega,by omega,by omega⟩,?_⟩
  have en:((((gp old).length:Int)-1) - -1).toNat=old.length:=by simp<;>omega
  rw[en]
  let Jv:=fun(m:Nat) (σ:St) (H3:Hp)=>∃v w rows,σ=[rr o,rr n,rr p,v,w]∧gm H H3∧H3 p=some (.lst rows)∧NB H3 old new rows (old.length-m)∧∀i a,i≤old.length→rows[i]?=some (.ref a)→a≠p
  refine uo Jv
   ⟨_,_,ys,rfl,s3,b_,⟨hy,fun i hi=>?_⟩,fun i a hi ha=>?_⟩ ?_ ?_
  ·obtain⟨a,e1,e2,e3⟩:=Dt i (by omega)
   refine⟨a,e1,fun z=>?_⟩
   have:i=old.length:=by omega
   subst this
   rw[e_ (gj e3 hp)]
   exact e3
  ·obtain⟨a',e1,e2,e3⟩:=Dt i (by omega)
   rw[ha] at e1
   cases e1
   exact gj e3 hp
  ·rintro m σ H3 hm ⟨v,w',rows,rfl,s4,h4,tb,nb⟩
   obtain⟨i,hi⟩:∃i,i=old.length-1-m:=⟨_,rfl⟩
   have QZ:i<old.length:=by omega
   rw[show((gp old).length:Int)-1+(m:Int) * -1=(i:Int) by simp<;>omega]
   have UZ:old[i]?=some old[i]:=Wd QZ
   obtain⟨b,e1,e2⟩:=tb.2 (i+1) (by omega)
   refine⟨_,rfl,_,rfl,o,_,_,_,rfl,rfl,hE.of (s4 o _ ho),gH rfl (oO UZ),_,rfl,_,rfl,_,rfl,_,_,rfl,rfl,p,_,_,_,rfl,rfl,hE.of h4,gH (j:=i+1) (by omega) e1,?_⟩
   refine⟨old,new,i,_,n,b,rfl,UZ,s4 n _ hn,e2 (by omega),uJ,fun q H5 s5 hq5 h5=>?_⟩
   have hqp:q≠p:=fun z=>by rw[z,h4] at hq5;cases hq5
   refine⟨_,rfl,_,rfl,p,rows,_,i,rfl,rfl,s5 p _ h4,CD rfl (by rw[tb.1];omega),?_⟩
   refine⟨_,_,_,rfl,(s4.trans s5).upd Gy,b_,⟨by rw[acj];exact tb.1,fun i' Bt=>?_⟩,fun i' a Bt ha=>?_⟩
   ·by_cases e:i'=i
    ·subst e
     refine⟨q,by rw[abd (by rw[tb.1];omega)],fun _=>?_⟩
     rw[e_ hqp];exact h5
    ·obtain⟨a,a1,a2⟩:=tb.2 i' Bt
     refine⟨a,by rw[abn (fun z=>e z.symm)];exact a1,fun z=>?_⟩
     rw[e_ (nb i' a Bt a1)]
     exact s5 a _ (a2 (by omega))
   ·by_cases e:i'=i
    ·subst e
     rw[abd (by rw[tb.1];omega)] at ha
     cases ha
     exact hqp
    ·rw[abn (fun z=>e z.symm)] at ha
     exact nb i' a Bt ha
  ·rintro σ H3 ⟨v,w',rows,rfl,s4,h4,tb,nb⟩
   refine⟨_,rfl,k p H3 rows s4 Gy h4 ?_⟩
   rw[Nat.sub_self] at tb
   exact tb
end
end Kp
namespace K01
theorem C4{α:Type}[DecidableEq α]{a:α}{new:List α}{j k:Nat}(hj:j≤k)(hk:new[k]?=some a)(hm:∀l,j≤l→l<k→new[l]?≠some a):jb a new j=some k:=by
 cases e:jb a new j with
 | none=>exact absurd hk (n1 e k hj)
 | some k'=>
  obtain⟨h1,h2,h3⟩:=kE e
  rcases Nat.lt_trichotomy k k' with h|h|h
  ·exact absurd hk (h3 k hj h)
  ·rw[h]
  ·exact absurd h2 (hm k' h1 h)
theorem C5{α:Type}[DecidableEq α]{a:α}{new:List α}{j:Nat}(hm:∀l,j≤l→l<new.length→new[l]?≠some a):jb a new j=none:=by
 cases e:jb a new j with
 | none=>rfl
 | some k'=>
  obtain⟨h1,h2,h3⟩:=kE e
  exact absurd h2 (hm k' h1 (List.getElem?_eq_some_iff.mp h2).1)
end K01
namespace Kp
open PySem L2
section
variable{P:Program}{w:World}{K:Qqy}{mg:Qqx}{base:Heap}
noncomputable def Wi:Option Nat→V
 | none=>.jo
 | some k=>.int k
theorem Sh:gB ["texts","text","start","place"] ["texts","text","start"] (gc Wh):=⟨rfl,rfl,rfl,by decide+kernel,rfl,by decide+kernel,by decide+kernel⟩
def Si:Sp:=fun vs H Q _=>∃(new:List Str)(t:Str)(n:Addr)(j:Nat),vs=[.ref n,.str t,.int j]∧H n=some (.lst (gp new))∧new.length≤1000∧j≤1000∧Q (Wi (K01.jb t new j)) H
theorem Sj{f:Addr}{fd:FuncData}(F:xI K "place_from" "place_from" Wh f fd)(T:Txt mg):ip P w K mg base mU 1 f fd ["texts","text","start"] Si:=by
 refine F.rl Sh fun js A outer s H vs Q E hr h=>?_
 obtain⟨new,t,n,j,rfl,hn,hl,hj,k⟩:=h
 refine⟨_,de (iH aaz rfl (wA rfl T.range (a_ (pv 2) (a_ (gF gz (by rfl) T.len aay (a_ (pv 0) d_)) d_))) (iF (i:=3) Sh.nd rfl (Or.inl rfl))
   (fT (iy (ik mH (jS kL (pv 0) (pv 3) (fun _ _=>rfl)) (pv 1) (iE _)) (fT (h_ (pv 3))) hX)))
  (fT (h_ ug)),?_⟩
 refine JC ?_;intro _
 refine⟨_,rfl,_,rfl,n,_,rfl,.inl (hE.of hn),_,_,rfl,⟨by omega,by omega,by simp<;>omega,by simp<;>omega⟩,?_⟩
 let Jv:=fun(m:Nat) (σ:St) (H2:Hp)=>∃v,σ=[rr n,rs t,ri j,v]∧H2=H∧∀l,j≤l→l<j+m→new[l]?≠some t
 refine mi Jv ⟨none,rfl,rfl,fun l h1 h2=>by omega⟩ ?_ ?_
 ·rintro m σ H2 hm ⟨v,rfl,rfl,h2⟩
  have hm:j+m<new.length:=by simp at hm;omega
  rw[show(j:Int)+(m:Int)=((j+m:Nat):Int) by omega]
  have Qn:new[j+m]?=some new[j+m]:=Wd hm
  refine⟨_,rfl,_,rfl,n,_,_,_,rfl,rfl,hE.of hn,gH rfl (oO Qn),_,rfl,rfl,_,rfl,?_⟩
  refine lE (fun hc=>?_) (fun hc=>?_)
  ·have hc:new[j+m]=t:=by have:=aaA hc;injection this
   rw[hc] at Qn
   rw[K01.C4 (Nat.le_add_right j m) Qn h2] at k
   exact⟨_,rfl,k⟩
  ·have hc:¬new[j+m]=t:=fun z=>hc (by rw[z];exact ZF rfl)
   refine⟨_,rfl,rfl,fun l h3 h4=>?_⟩
   by_cases e:l=j+m
   ·subst e
    rw[Qn]
    intro z
    exact hc (aau z)
   ·exact h2 l h3 (by omega)
 ·rintro σ H2 ⟨v,rfl,rfl,h2⟩
  rw[K01.C5 (j:=j) fun l h3 h4=>h2 l h3 (by simp<;>omega)] at k
  exact k
def ku(H:Hp)(q:Nat×Nat)(v:V):Prop:=∃a,v=.ref a∧H a=some (.tup [.int q.1,.int q.2])
abbrev iG(H:Hp)(l:List (Nat×Nat))(vs:List V):Prop:=Paired (ku H) l vs
theorem iG.keep{H H':Hp}{l:List (Nat×Nat)}{vs:List V}(h:iG H l vs)(k:∀a xs,H a=some (.tup xs)→H' a=some (.tup xs)):iG H' l vs:=
 Paired.jZ h fun q v ⟨a,e,h⟩=>⟨a,e,k a _ h⟩
theorem Pc:gB ["old","new","table","pairs","start","first","second"] ["old","new"] (gc NA):=⟨rfl,rfl,rfl,by decide+kernel,rfl,by decide+kernel,by decide+kernel⟩
def ZJ:Sp:=fun vs H Q _=>∃(old new:List Str)(o n:Addr),vs=[.ref o,.ref n]∧H o=some (.lst (gp old))∧H n=some (.lst (gp new))∧old.length≤1000∧new.length≤1000∧
 ∀p H' ps,gm H H'→H p=none→H' p=some (.lst ps)→iG H' (K01.kept old new) ps→Q (.ref p) H'
theorem My{f fM fC fP:Addr}{fd Xx Q7 Xy:FuncData}(F:xI K "kept" "kept" NA f fd)(T:Txt mg)(C:xI K "counts_with" "counts_with" UL fC Q7)(bC:Binds K Q7 ["text","new","below"] [])(mC:mg "counts_with"=some (.ref fC))
  (M:xI K "most_pairs" "most_pairs" UM fM Xx) (bM:Binds K Xx ["old","new"] []) (mM:mg "most_pairs"=some (.ref fM)) (Pf:xI K "place_from" "place_from" Wh fP Xy) (bP:Binds K Xy ["texts","text","start"] []) (mP:mg "place_from"=some (.ref fP)) :
  ip P w K mg base mU 3 f fd ["old","new"] ZJ:=by
 have GM:ip P w K mg base mU 2 fM Xx ["old","new"] Sf:=Sg M T C bC mC
 have GP:ip P w K mg base mU 2 fP Xy ["texts","text","start"] Si:=(Sj Pf T).mono (by decide)
 refine F.rl Pc fun js A outer s H vs Q E hr h=>?_
 obtain⟨old,new,o,n,rfl,ho,hn,WD,uJ,k⟩:=h
 refine⟨_,de (mV (i:=2) Pc.nd rfl (Or.inl rfl) (uZ GM hr rfl mM M.kp bM .nil pM (a_ (pv 0) (a_ (pv 1) d_))))
  (de (mV (i:=3) Pc.nd rfl (Or.inl rfl) (iW d_))
  (de (mV (i:=4) Pc.nd rfl (Or.inl rfl) f_)
  (de (iH aaz rfl (kK rfl T.range (a_ (gF gz (by rfl) T.len aay (a_ (pv 0) d_)) d_)) (iF (i:=5) Pc.nd rfl (Or.inl rfl))
   (de (mV (i:=6) Pc.nd rfl (Or.inl rfl) (uZ GP hr rfl mP Pf.kp bP .nil pM (a_ (pv 1) (a_ (jS kL (pv 0) (pv 5) (fun _ _=>rfl)) (a_ (pv 4) d_)))))
   (fT (iy (pw_and (jt (sV (pv 6))) (pw_and1 (ik mH
     (gs iI (jS kL (jS kL (pv 2) (gs iI (pv 5) f_) (fun _ _=>rfl)) (gs iI (pv 6) f_) (fun _ _=>rfl)) f_)
     (jS kL (jS kL (pv 2) (pv 5) (fun _ _=>rfl)) (pv 4) (fun _ _=>rfl)) (iE _)))).pt
    (de (g_ (qR aaM aaY aaZ kO (pv 3) (a_ (Cq (a_ (pv 5) (a_ (pv 6) d_))) d_)))
    (fT (mV (i:=4) Pc.nd rfl (Or.inl rfl) (gs iI (pv 6) f_))))
    hX))))
  (fT (h_ (pv 3)))))),?_⟩
 refine QM ?_;intro _ _ _ _
 refine⟨_,rfl,_,rfl,old,new,o,n,rfl,ho,hn,WD,uJ,fun tb H1 rows s1 Xl h1 TR=>?_⟩
 refine⟨j0,fun pr U8=>?_⟩
 have Xz:H pr=none:=s1.free U8
 refine⟨_,rfl,o,_,rfl,.inl (hE.of (s1.new U8 o _ ho)),_,rfl,by simp<;>omega,by simp<;>omega,?_⟩
 have en:((gp old).length:Int).toNat=old.length:=by simp
 rw[en]
 refine mi (fun m σ H2=>∃(j:Nat)(acc:List (Nat×Nat))(ps:List V)(v w:Option V),σ=[rr o,rr n,rr tb,rr pr,ri j,v,w]∧gm H1 H2∧H2 pr=some (.lst ps)∧iG H2 acc ps∧acc.length≤m∧j≤new.length∧
   acc++K01.pN new m (old.drop m) j=K01.kept old new) ⟨0,[],[],none,none,rfl,(gm.refl H1).new U8,b_,.nil,ZA _,aaI _,rfl⟩ ?_ ?_
 ·rintro m σ H2 hm ⟨j,acc,ps,v,w',rfl,s2,h2,pa,AA,hj,hk⟩
  rw[show(0:Int)+(m:Int)=(m:Int) by omega]
  have hom:old[m]?=some old[m]:=Wd hm
  have hd:old.drop m=old[m]::old.drop (m+1):=aaQ hm
  rw[hd,K01.pN] at hk
  refine⟨_,rfl,_,rfl,_,rfl,o,_,_,_,rfl,rfl,hE.of (s2 o _ (s1 o _ ho)),gH rfl (oO hom),_,rfl,new,_,n,j,rfl,s2 n _ (s1 n _ hn),uJ,by omega,?_⟩
  cases e:K01.jb old[m] new j with
  | none=>
   rw[e] at hk
   refine⟨_,rfl,_,rfl,JJ (by rfl) (jz ?_)⟩
   exact⟨j,acc,ps,_,_,rfl,s2,h2,pa,by omega,hj,hk⟩
  | some q=>
   rw[e] at hk
   simp only at hk
   obtain⟨hq1,hq2,hq3⟩:=K01.kE e
   have I_:q<new.length:=(List.getElem?_eq_some_iff.mp hq2).1
   obtain⟨a1,ea1,XA⟩:=TR.2 (m+1) (by omega)
   obtain⟨a0,ea0,XC⟩:=TR.2 m (by omega)
   have XA:=s2 a1 _ (XA (aaI _))
   have XC:=s2 a0 _ (XC (aaI _))
   have TU:H2 tb=some (.lst rows):=s2 tb _ h1
   refine⟨_,rfl,_,rfl,JK (by rfl) ?_⟩
   refine⟨_,rfl,_,rfl,_,_,rfl,rfl,tb,_,_,_,rfl,rfl,hE.of TU,gH (j:=m+1) (by omega) ea1,_,rfl,_,_,rfl,rfl,a1,_,_,_,rfl,rfl,hE.of XA,gH (j:=q+1) (by omega) (C3 (by omega)),_,_,rfl,rfl,
    _,rfl,_,rfl,tb,_,_,_,rfl,rfl,hE.of TU,gH rfl ea0,_,rfl,a0,_,_,_,rfl,rfl,hE.of XC,gH rfl (C3 (by omega)),rfl,_,rfl,?_⟩
   refine lE (fun hc=>?_) (fun hc=>?_)
   ·have hc:((K01.wO old new (m+1) (q+1):Nat):Int)+1=((K01.wO old new m j:Nat):Int):=by have:=aaA hc;injection this
    have Cf:K01.lcs (old.drop (m+1)) (new.drop (q+1))+1=K01.lcs (old[m]::old.drop (m+1)) (new.drop j):=by rw[←hd];unfold K01.wO at hc;omega
    rw[aap Cf] at hk
    refine⟨_,rfl,.inl ⟨rfl,_,hE.of h2⟩,_,rfl,_,rfl,j0,fun t ht=>?_⟩
    have qg:=pa.length
    have ntp:pr≠t:=gj h2 ht
    refine⟨pr,ps,_,rfl,rfl,by rw[e_ ntp];exact h2,by have:sizeLine=2 ^ 24:=rfl;omega,?_⟩
    refine⟨_,rfl,_,_,rfl,rfl,q+1,acc++[(m,q)],ps++[.ref t],_,_,rfl,(s2.new ht).upd U8,b_,?_,by rw[ZD];simp;omega,by omega,by rw[aaw];exact hk⟩
    refine Paired.snoc (pa.keep fun a xs ha=>?_) ⟨t,rfl,?_⟩
    ·rw[e_ (iX ha h2 (by intro z;cases z)),e_ (gj ha ht)];exact ha
    ·rw[e_ (abJ ntp),b_]
     rfl
   ·have hc:¬((K01.wO old new (m+1) (q+1):Nat):Int)+1=((K01.wO old new m j:Nat):Int):=fun z=>hc (ZF (aa4 V.int z))
    have Cf:¬K01.lcs (old.drop (m+1)) (new.drop (q+1))+1=K01.lcs (old[m]::old.drop (m+1)) (new.drop j):=by rw[←hd];unfold K01.wO at hc;omega
    rw[aak Cf] at hk
    exact⟨j,acc,ps,_,_,rfl,s2,h2,pa,by omega,hj,hk⟩
 ·rintro σ H2 ⟨j,acc,ps,v,w',rfl,s2,h2,pa,AA,hj,hk⟩
  rw[ach,K01.pN,aaa] at hk
  rw[hk] at pa
  exact⟨_,rfl,k pr H2 ps (s1.trans s2) Xz h2 pa⟩
end
end Kp
namespace PK
open PySem L2 PM
open Kp (ku iG)
theorem Pd(a b c d:V):jC "lower_name" d (jC "upper_name" c (jC "text" b (jC "name" a [])))=Ms a b c d:=by kernel_rfl
theorem Pe(a b c d e:V):jC "other" e (jC "cuts" d (jC "puts" c (jC "file" b (jC "name" a []))))=Mt a b c d e:=by kernel_rfl
noncomputable def QR(a l:Addr):List (Str×V):=[("ahead",.ref a),("lines",.ref l)]
theorem Pg(a l:Addr):jC "lines" (.ref l) (jC "ahead" (.ref a) [])=QR a l:=by kernel_rfl
theorem lC(a l:Addr):(QR a l).lookup ("lines":Str)=some (V.ref l):=by kernel_rfl
theorem Gg(a l:Addr):(QR a l).lookup ("ahead":Str)=some (V.ref a):=by kernel_rfl
theorem Ph(a l:Addr):(QR a l).lookup ("is_ahead":Str)=none:=by kernel_rfl
theorem Kt(a l:Addr):(QR a l).lookup ("quarrelling":Str)=none:=by kernel_rfl
theorem Il(a:Addr):(jC ("ahead":Str) (.ref a) []).lookup ("ahead":Str)=some (V.ref a):=by kernel_rfl
def Gh(A:Ad)(H:Hp)(p:Addr)(al row:List Ln):Prop:=∃dx ah l,H p=some (.ins A.ie dx (QR ah l))∧C1 H ah al∧oC A H l row
theorem Gh.same{A:Ad}{H H':Hp}{p:Addr}{al row:List Ln}(x:Gh A H p al row)(s:gm H H'):Gh A H' p al row:=by
 obtain⟨dx,ah,l,h1,h2,h3⟩:=x
 exact⟨dx,ah,l,s _ _ h1,h2.same s,h3.same s⟩
section
variable{P:Program}{w:World}{K:Qqy}{mg:Qqx}{base:Heap}{A:Ad}
def Sk(A:Ad):Sp:=fun vs H Q _=>∃(p dx:Addr)(a b c d:V),vs=[.ref p,a,b,c,d]∧H p=some (.ins A.hU dx [])∧∀H',(∀x,x≠p→H' x=H x)→H' p=some (.ins A.hU dx (Ms a b c d))→Q .jo H'
theorem C6(T:Txt mg)(O:Ok K mg A):ip P w K mg base mU 1 A.nu A.qT ["self","name","text","upper_name","lower_name"] (Sk A):=by
 refine O.tZ.f.rl wR fun js A0 outer s H vs Q E hr h=>?_
 obtain⟨p,dx,a,b,c,d,rfl,hp,k⟩:=h
 refine⟨_,(de (lH (pv 0) (pv 1) rfl)
  (de (lH (pv 0) (pv 2) rfl)
  (de (lH (pv 0) (pv 3) rfl)
  (fT (lH (pv 0) (pv 4) rfl))))),?_⟩
 refine OQ ?_;intro _ _ _
 refine⟨_,rfl,_,rfl,p,A.hU,dx,_,rfl,hp,O.iQ,O.hG,(by show 0<1000;decide),?_⟩
 refine⟨_,rfl,_,rfl,p,A.hU,dx,_,rfl,b_,O.iQ,O.jK,(by show 1<1000;decide),?_⟩
 refine⟨_,rfl,_,rfl,p,A.hU,dx,_,rfl,b_,O.iQ,O.iK,(by show 2<1000;decide),?_⟩
 refine⟨_,rfl,_,rfl,p,A.hU,dx,_,rfl,b_,O.iQ,O.iL,(by show 3<1000;decide),?_⟩
 exact k _ (fun x hx=>by rw[e_ hx,e_ hx,e_ hx,e_ hx]) (Eq.trans b_ (aa4 (fun l=>some (HO.ins A.hU dx l)) (Pd a b c d)))
def Sl(A:Ad):Sp:=fun vs H Q _=>∃(p dx:Addr)(a b c d e:V),vs=[.ref p,a,b,c,d,e]∧H p=some (.ins A.hV dx [])∧∀H',(∀x,x≠p→H' x=H x)→H' p=some (.ins A.hV dx (Mt a b c d e))→Q .jo H'
theorem pA(T:Txt mg)(O:Ok K mg A):ip P w K mg base mU 1 A.mz A.pT ["self","name","file","puts","cuts","other"] (Sl A):=by
 refine O.lW.f.rl vq fun js A0 outer s H vs Q E hr h=>?_
 obtain⟨p,dx,a,b,c,d,e,rfl,hp,k⟩:=h
 refine⟨_,(de (lH (pv 0) (pv 1) rfl)
  (de (lH (pv 0) (pv 2) rfl)
  (de (lH (pv 0) (pv 3) rfl)
  (de (lH (pv 0) (pv 4) rfl)
  (fT (lH (pv 0) (pv 5) rfl)))))),?_⟩
 refine QM ?_;intro _ _ _ _
 refine⟨_,rfl,_,rfl,p,A.hV,dx,_,rfl,hp,O.jm,O.iZ,(by show 0<1000;decide),?_⟩
 refine⟨_,rfl,_,rfl,p,A.hV,dx,_,rfl,b_,O.jm,O.kl,(by show 1<1000;decide),?_⟩
 refine⟨_,rfl,_,rfl,p,A.hV,dx,_,rfl,b_,O.jm,O.jM,(by show 2<1000;decide),?_⟩
 refine⟨_,rfl,_,rfl,p,A.hV,dx,_,rfl,b_,O.jm,O.jN,(by show 3<1000;decide),?_⟩
 refine⟨_,rfl,_,rfl,p,A.hV,dx,_,rfl,b_,O.jm,O.i5,(by show 4<1000;decide),?_⟩
 exact k _ (fun x hx=>by rw[e_ hx,e_ hx,e_ hx,e_ hx,e_ hx]) (Eq.trans b_ (aa4 (fun l=>some (HO.ins A.hV dx l)) (Pe a b c d e)))
def Mz(A:Ad):Sp:=fun vs H Q _=>∃(p dx a:Addr)(ps:List Pt)(f:Str),vs=[.ref p,.ref a,.str f]∧H p=some (.ins A.ie dx [])∧yQ A H a ps∧Small ps∧
 ((gg ps f).map (·.nm)).Nodup∧mZ (gg ps f)∧J6 (gg ps f)∧
 ∀(H':Hp),(∀b o,H b=some o→b≠p→H' b=some o)→Gh A H' p (gg ps f) (rowOf (Ah (gg ps f)) (j_ ps f))→Q .jo H'
theorem lF.off{H H':Hp}{p C dx:Addr}{fs:List (Str×V)}{v:V}{n:Nm}(x:lF H v n)(hp:H p=some (.ins C dx fs))(s:∀b o,H b=some o→b≠p→H' b=some o):lF H' v n:=by
 obtain⟨t,e,h⟩:=x
 exact⟨t,e,s _ _ h (iX h hp (fun z=>by cases z))⟩
theorem Gb.off{H H':Hp}{p C dx:Addr}{fs:List (Str×V)}{v:V}{n:Option Nm}(x:Gb H v n)(hp:H p=some (.ins C dx fs))(s:∀b o,H b=some o→b≠p→H' b=some o):Gb H' v n:=by
 cases n with
 | none=>exact x
 | some n=>exact lF.off x hp s
theorem mQ.off{H H':Hp}{p C dx a:Addr}{fs:List (Str×V)}{l:Ln}(x:mQ A H a l)(hp:H p=some (.ins C dx fs))(hf:fs.length<2)(s:∀b o,H b=some o→b≠p→H' b=some o):mQ A H' a l:=by
 obtain⟨XD,vn,vu,vl,h,h1,h2,h3⟩:=x
 have:a≠p:=fun z=>by
  rw[z,hp] at h
  have e:=aau h
  injection e with _ _ e
  rw[e] at hf
  exact absurd hf (by unfold Ms;simp)
 exact⟨XD,vn,vu,vl,s _ _ h this,h1.off hp s,h2.off hp s,h3.off hp s⟩
theorem oC.off{H H':Hp}{p C dx a:Addr}{fs:List (Str×V)}{ls:List Ln}(x:oC A H a ls)(hp:H p=some (.ins C dx fs))(hf:fs.length<2)(s:∀b o,H b=some o→b≠p→H' b=some o):oC A H' a ls:=by
 obtain⟨as,h,q⟩:=x
 exact⟨as,s _ _ h (iX h hp (fun z=>by cases z)),Paired.jZ q fun _ _ z=>z.off hp hf s⟩
theorem vR.off{H H':Hp}{p C dx a:Addr}{fs:List (Str×V)}{ns:List Nm}(x:vR H a ns)(hp:H p=some (.ins C dx fs))(s:∀b o,H b=some o→b≠p→H' b=some o):vR H' a ns:=by
 obtain⟨as,h,q⟩:=x
 exact⟨as,s _ _ h (iX h hp (fun z=>by cases z)),Paired.jZ q fun _ _ z=>z.off hp s⟩
theorem oE.off{H H':Hp}{p C dx a:Addr}{fs:List (Str×V)}{pt:Pt}(x:oE A H a pt)(hp:H p=some (.ins C dx fs))(hf:fs.length<2)(s:∀b o,H b=some o→b≠p→H' b=some o):oE A H' a pt:=by
 obtain⟨XD,vf,pu,cu,vo,h,h1,h2,h3,h4⟩:=x
 have:a≠p:=fun z=>by
  rw[z,hp] at h
  have e:=aau h
  injection e with _ _ e
  rw[e] at hf
  exact absurd hf (by unfold Mt;simp)
 exact⟨XD,vf,pu,cu,vo,s _ _ h this,h1,h2.off hp hf s,h3.off hp s,h4⟩
theorem yQ.off{H H':Hp}{p C dx a:Addr}{fs:List (Str×V)}{ps:List Pt}(x:yQ A H a ps)(hp:H p=some (.ins C dx fs))(hf:fs.length<2)(s:∀b o,H b=some o→b≠p→H' b=some o):yQ A H' a ps:=by
 obtain⟨as,h,q⟩:=x
 exact⟨as,s _ _ h (iX h hp (fun z=>by cases z)),Paired.jZ q fun _ _ z=>z.off hp hf s⟩
theorem C1.off{H H':Hp}{p C dx a:Addr}{fs:List (Str×V)}{ls:List Ln}(x:C1 H a ls)(hp:H p=some (.ins C dx fs))(s:∀b o,H b=some o→b≠p→H' b=some o):C1 H' a ls:=by
 obtain⟨kvs,e1,e2⟩:=x
 refine⟨kvs,s _ _ e1 (iX e1 hp (fun z=>by cases z)),fun n hn=>?_⟩
 obtain⟨b,dk,z1,z2,z3⟩:=e2 n hn
 exact⟨b,dk,z1,s _ _ z2 (iX z2 hp (fun z=>by cases z)),z3⟩
theorem Bh(T:Txt mg)(O:Ok K mg A):ip P w K mg base mU 3 A.mB A.p0 ["self","patches","file"] (Mz A):=by
 have Fd:=@C2 P w K mg base A T O
 have sR:=@vS P w K mg base A T O
 have xr:=@vT P w K mg base A T O
 have Lk:=@Ik P w K mg base A T O
 refine O.su.f.rl vt fun js A0 outer s H vs Q E hr h=>?_
 obtain⟨p,dx,a,ps,f,rfl,hp,ha,sm,nd,cl,tp,q⟩:=h
 have TV:wy (gg ps f).length:=aac (qF ps f) sm.ir
 have Bu:=j4 ps f
 refine⟨_,(de (lH (pv 0) (ml O.BR Fd hr (a_ (ml O.xf sR hr (a_ (pv 1) (a_ (pv 2) d_))) d_)) rfl)
   (fT (lH (pv 0) (ml O.Kf Lk hr (a_ (ml O.sj xr hr (a_ (pv 1) (a_ (pv 2) d_))) (a_ (gE (pv 0) rfl) d_))) rfl))),?_⟩
 refine JC ?_;intro _
 refine⟨_,rfl,_,rfl,a,ps,f,rfl,ha,sm,fun l1 H1 s1 U9 TX=>?_⟩
 refine⟨l1,_,rfl,TX,TV,nd,cl,tp,fun ah H2 s2 U_ TY=>?_⟩
 have XE:gm H H2:=s1.trans s2
 have zf:=XE p _ hp
 refine⟨_,rfl,p,A.ie,dx,_,rfl,zf,O.j6,O.jw,(by show 0<1000;decide),?_⟩
 have s3:∀b o,H2 b=some o→b≠p→(upd H2 p (.ins A.ie dx (jC "ahead" (.ref ah) []))) b=some o:=fun b o e n=>by rw[e_ n];exact e
 have ha3:=(ha.same XE).off zf (by decide) s3
 have TZ:=TY.off zf s3
 refine⟨_,rfl,_,rfl,a,ps,f,rfl,ha3,sm,fun st H4 s4 Va T1=>?_⟩
 have NX:H4 p=some (.ins A.ie dx (jC "ahead" (.ref ah) [])):=s4 p _ b_
 refine⟨_,rfl,p,A.ie,dx,_,_,rfl,NX,O.j6,O.jw,Il ah,st,ah,j_ ps f,gg ps f,rfl,T1,TZ.same s4,aac Bu.length_le TV,(Bu.map _).nodup nd,fun l hl=>Wc (Bu.subset hl),tp,fun l H5 s5 Vb T2=>?_⟩
 have XF:=s5 p _ NX
 refine⟨_,rfl,p,A.ie,dx,_,rfl,XF,O.j6,O.iu,(by show 1<1000;decide),?_⟩
 have s6:∀b o,H5 b=some o→b≠p→(upd H5 p (.ins A.ie dx (jC "lines" (.ref l) (jC "ahead" (.ref ah) [])))) b=some o:=fun b o e n=>by rw[e_ n];exact e
 refine q _ (fun b o hb nb=>?_) ⟨dx,ah,l,Eq.trans b_ (aa4 (fun l=>some (HO.ins A.ie dx l)) (Pg ah l)),?_,?_⟩
 ·rw[e_ nb]
  refine s5 b o (s4 b o ?_)
  rw[e_ nb]
  exact XE b o hb
 ·exact((TZ.same s4).same s5).off XF s6
 ·exact T2.off XF (by show 1<2;decide) s6
open Classical in
def Wj(A:Ad):Sp:=fun vs H Q _=>∃(p:Addr)(al row:List Ln)(i j:Nat)(a b:Ln),vs=[.ref p,.int i,.int j]∧Gh A H p al row∧row[i]?=some a∧row[j]?=some b∧b.nm∈al.map (·.nm)∧Q (.bl (decide (Ah al a.nm b.nm))) H
open Classical in
theorem EU(T:Txt mg)(O:Ok K mg A):ip P w K mg base mU 1 A.p3 A.p5 ["self","first","second"] (Wj A):=by
 refine O.sv.f.rl vw fun js A0 outer s H vs Q E hr h=>?_
 obtain⟨p,al,row,i,j,x,y,rfl,⟨dx,ah,l,h1,⟨kh,h2,h3⟩,⟨as,h4,h5⟩⟩,hi,hj,hy,q⟩:=h
 obtain⟨b,hb,dxb,vn,vu,vl,g1,⟨t,rfl,g2⟩,g3,g4⟩:=lB h5 hi
 obtain⟨c,hc,dxc,vn',vu',vl',k1,⟨t',rfl,k2⟩,k3,k4⟩:=lB h5 hj
 obtain⟨e,dk,z1,z2,z3⟩:=h3 y.nm hy
 have Vc:(as.map V.ref)[i]?=some (.ref b):=by rw[aam,hb];rfl
 have hcj:(as.map V.ref)[j]?=some (.ref c):=by rw[aam,hc];rfl
 refine⟨_,(fT (h_ (Od (ph (by exact iY hr) (gE (mD (gE (pv 0) rfl) (pv 1)) rfl) (zI hr (gE (pv 0) rfl) (gE (mD (gE (pv 0) rfl) (pv 2)) rfl)))))),?_⟩
 refine⟨_,rfl,p,A.ie,dx,_,_,rfl,h1,O.j6,O.iu,lC ah l,_,rfl,l,_,_,_,rfl,rfl,hE.of h4,gH rfl Vc,b,A.hU,dxb,_,_,rfl,g1,O.iQ,O.hG,i7,?_⟩
 refine⟨_,rfl,p,A.ie,dx,_,_,rfl,h1,O.j6,O.jw,Gg ah l,_,rfl,p,A.ie,dx,_,_,rfl,h1,O.j6,O.iu,lC ah l,_,rfl,l,_,_,_,rfl,rfl,hE.of h4,gH rfl hcj,c,A.hU,dxc,_,_,rfl,k1,O.iQ,O.hG,i7,ah,.ref e,rfl,?_,e,_,rfl,ja.t (k:=nk x.nm) z2 g2,?_⟩
 ·have:=ja.t (k:=nk y.nm) h2 k2
  rw[z1] at this
  exact this
 ·have e2:(iR dk (nk x.nm)).isSome=decide (Ah al x.nm y.nm):=by
   rw[abG,aa2];exact z3 x.nm
  rw[e2]
  exact q
def Wk(A:Ad):Sp:=fun vs H Q _=>∃(p:Addr)(al row:List Ln),vs=[.ref p]∧Gh A H p al row∧(∀l∈row,l.nm∈al.map (·.nm))∧wy row.length∧∀r H' vs,gm H H'→H r=none→H' r=some (.lst vs)→iG H' (jv (Ah al) row) vs→Q (.ref r) H'
open Classical in
noncomputable def xi(lt:Nm→Nm→Prop)(row:List Ln)(i m:Nat):List (Nat×Nat):=((List.range' (i+1) m).filter fun j=>decide (¬ltAt lt row i j)).map fun j=>(i,j)
noncomputable def EV(lt:Nm→Nm→Prop)(row:List Ln)(i:Nat):List (Nat×Nat):=(List.range i).flatMap fun i=>xi lt row i (row.length-(i+1))
theorem Ku(lt:Nm→Nm→Prop)(row:List Ln):EV lt row row.length=jv lt row:=rfl
theorem B1(lt:Nm→Nm→Prop)(row:List Ln)(i:Nat):EV lt row (i+1)=EV lt row i++xi lt row i (row.length-(i+1)):=by
 unfold EV
 rw[acm,abk,aaJ,abC,aaa]
theorem Im(lt:Nm→Nm→Prop)(row:List Ln)(i m:Nat)(h:¬ltAt lt row i (i+1+m)):xi lt row i (m+1)=xi lt row i m++[(i,i+1+m)]:=by
 unfold xi
 rw[show m+1=m+1 from rfl,←List.range'_append_1 (s:=i+1) (m:=m) (n:=1),aaF,aar]
 congr 1
 show List.map _ (List.filter _ [i+1+m])=_
 rw[aab (by simpa using h)]
 rfl
theorem Gi(lt:Nm→Nm→Prop)(row:List Ln)(i m:Nat)(h:ltAt lt row i (i+1+m)):xi lt row i (m+1)=xi lt row i m:=by
 unfold xi
 rw[←List.range'_append_1 (s:=i+1) (m:=m) (n:=1),aaF,aar]
 show _++List.map _ (List.filter _ [i+1+m])=_
 rw[aaj (by simpa using h)]
 simp
theorem EW(lt:Nm→Nm→Prop)(row:List Ln)(i m:Nat):(xi lt row i m).length≤m:=by
 unfold xi
 rw[Tj]
 exact aac (aaN _ _) (by rw[List.length_range'];exact ZA _)
theorem EY(lt:Nm→Nm→Prop)(row:List Ln):∀i,(EV lt row i).length≤i*row.length
 | 0=>aaI _
 | i+1=>by
  rw[B1,ZD,Nat.succ_mul]
  have:=EY lt row i
  have:=EW lt row i (row.length-(i+1))
  omega
open Classical in
theorem sI(T:Txt mg)(O:Ok K mg A):ip P w K mg base mU 2 A.nI A.nJ ["self"] (Wk A):=by
 have xt:=@EU P w K mg base A T O
 refine O.jJ.f.rl jF fun js A0 outer s H vs Q E hr h=>?_
 obtain⟨p,al,row,rfl,S,XG,j0,q⟩:=h
 obtain⟨dx,ah,l,h1,h2,⟨as,h4,h5⟩⟩:=id S
 have hlen:=aaq h5
 have yT:row.length≤4000:=j0
 have sz:sizeLine=16777216:=aaB
 refine⟨_,(de (lx 1 jF (iW d_))
   (de (iH aaz rfl (kK rfl T.lT (a_ (gF gz (by rfl) T.jH aay (a_ (gE (pv 0) rfl) d_)) d_)) (tM 2 jF) (fT (iH aaz rfl (wA rfl T.lT (a_ (gs iI (pv 2) f_) (a_ (gF gz (by rfl) T.jH aay (a_ (gE (pv 0) rfl) d_)) d_))) (tM 3 jF) (fT (iy (ll (mf (uS (pv 0) O.j6 O.sv xt hr (a_ (pv 2) (a_ (pv 3) d_))))) (fT (g_ (qR aaM aaY aaZ kO (pv 1) (a_ (Cq (a_ (pv 2) (a_ (pv 3) d_))) d_)))) hX)))))
   (fT (h_ (pv 1))))),?_⟩
 refine Fp ?_;intro _ _
 refine⟨L2.j0,fun r sS=>?_⟩
 have s1:gm H (upd H r (.lst [])):=(gm.refl H).new sS
 have el:((as.map V.ref).length:Int)=(row.length:Int):=by rw[Tj,hlen]
 refine⟨_,rfl,p,A.ie,dx,_,_,rfl,s1 _ _ h1,O.j6,O.iu,lC ah l,l,_,rfl,.inl (hE.of (s1 _ _ h4)),_,rfl,by omega,by omega,?_⟩
 rw[el,abT]
 let Jv:=fun(i:Nat) (σ:St) (H2:Hp)=>∃(v2 v3:Option V)(vs:List V),σ=[rr p,rr r,v2,v3]∧gm H H2∧H2 r=some (.lst vs)∧iG H2 (EV (Ah al) row i) vs
 refine mi Jv ⟨none,none,[],rfl,s1,b_,.nil⟩ ?_ ?_
 ·rintro i σ H2 hi ⟨v2,v3,vs,rfl,s2,k1,k2⟩
  rw[show(0:Int)+(i:Int)=(i:Int) by omega]
  refine⟨_,rfl,_,_,rfl,rfl,_,rfl,p,A.ie,dx,_,_,rfl,s2 _ _ h1,O.j6,O.iu,lC ah l,l,_,rfl,.inl (hE.of (s2 _ _ h4)),_,_,rfl,⟨by omega,by omega,by omega,by omega⟩,?_⟩
  rw[el,show((row.length:Int)-((i:Int)+1)).toNat=row.length-(i+1) by omega]
  let Jv:=fun(m:Nat) (σ:St) (H3:Hp)=>∃(v3:Option V)(vs:List V),σ=[rr p,rr r,ri i,v3]∧gm H H3∧H3 r=some (.lst vs)∧iG H3 (EV (Ah al) row i++xi (Ah al) row i m) vs
  refine mi Jv ⟨v3,vs,rfl,s2,k1,by unfold xi;simpa using k2⟩ ?_ ?_
  ·rintro m σ H3 hm ⟨v3,vs,rfl,s3,k1,k2⟩
   rw[show(i:Int)+1+(m:Int)=((i+1+m:Nat):Int) by omega]
   have hj:i+1+m<row.length:=by omega
   have ei:row[i]?=some row[i]:=Wd hi
   have ej:row[i+1+m]?=some row[i+1+m]:=Wd hj
   have uJ:vs.length=(EV (Ah al) row i++xi (Ah al) row i m).length:=(aaq k2).symm
   have Qo:=EY (Ah al) row i
   have Lg:=EW (Ah al) row i m
   have hb3:i*row.length≤4000*4000:=Nat.mul_le_mul (by omega) yT
   rw[ZD] at uJ
   refine⟨_,rfl,p,dx,_,rfl,s3 _ _ h1,Ph ah l,_,rfl,_,rfl,p,al,row,i,i+1+m,_,_,rfl,S.same s3,ei,ej,XG _ (List.getElem_mem hj),_,rfl,?_⟩
   have kU:ltAt (Ah al) row i (i+1+m)↔Ah al row[i].nm row[i+1+m].nm:=by
    constructor
    ·rintro⟨a,b,ha,hb,z⟩
     rw[ei] at ha;rw[ej] at hb;cases ha;cases hb
     exact z
    ·exact fun z=>⟨_,_,ei,ej,z⟩
   by_cases hc:Ah al row[i].nm row[i+1+m].nm
   ·rw[ZF hc]
    exact jz ⟨_,vs,rfl,s3,k1,by rw[Gi _ _ _ _ (kU.mpr hc)];exact k2⟩
   ·rw[aaf hc]
    refine l7 ?_
    refine⟨_,rfl,.inl ⟨rfl,_,hE.of k1⟩,_,rfl,_,rfl,L2.j0,fun t ht=>?_⟩
    have ntr:r≠t:=gj k1 ht
    refine⟨r,vs,_,rfl,rfl,by rw[e_ ntr];exact k1,by omega,?_⟩
    refine⟨_,vs++[.ref t],rfl,(s3.new ht).upd sS,b_,?_⟩
    rw[Im _ _ _ _ (fun z=>hc (kU.mp z)),←aaw]
    refine iC (Paired.jZ k2 fun a v ⟨b,e,hb⟩=>⟨b,e,?_⟩) ⟨t,rfl,?_⟩
    ·rw[e_ (iX hb k1 (by intro z;cases z)),e_ (gj hb ht)];exact hb
    ·rw[e_ ntr.symm,b_]
  ·rintro σ H3 ⟨v3,vs,rfl,s3,k1,k2⟩
   exact⟨_,_,vs,rfl,s3,k1,by rw[B1];exact k2⟩
 ·rintro σ H2 ⟨v2,v3,vs,rfl,s2,k1,k2⟩
  exact⟨_,rfl,q r H2 vs s2 sS k1 (by rw[Ku] at k2;exact k2)⟩
theorem Gb.upd{H:Hp}{v:V}{n:Option Nm}{x:Addr}{o o':HO}(h:Gb H v n)(hx:H x=some o')(ht:∀xs,o'≠.tup xs):Gb (L2.upd H x o) v n:=by
 cases n with
 | none=>exact h
 | some n=>exact lF.upd h hx ht
theorem mQ.upd{A:Ad}{H:Hp}{a:Addr}{l:Ln}{x:Addr}{o o':HO}(h:mQ A H a l)(hx:H x=some o')(ht:∀xs,o'≠.tup xs)(hi:∀C dx fs,o'≠.ins C dx fs):mQ A (L2.upd H x o) a l:=by
 obtain⟨dx,vn,vu,vl,h0,h1,h2,h3⟩:=h
 exact⟨dx,vn,vu,vl,by rw[e_ (iX h0 hx (fun z=>hi _ _ _ z.symm))];exact h0,h1.upd hx ht,h2.upd hx ht,h3.upd hx ht⟩
theorem Ao{A:Ad}{H:Hp}{as:List Addr}{ls:List Ln}(p:Paired (mQ A H) as ls){i:Nat}{l:Ln}(h:ls[i]?=some l):∃b,(as.map V.ref)[i]?=some (.ref b)∧mQ A H b l:=by
 obtain⟨b,hb,z⟩:=lB p h
 exact⟨b,by rw[aam,hb];rfl,z⟩
noncomputable def Bi(p:Pt)(k:Nat):List (Option Nm):=p.i3.map some++(p.ir.take k).flatMap fun l=>[l.up,l.lo]
theorem named_eq(p:Pt):named p=(Bi p p.ir.length).filterMap id:=by
 unfold named Bi
 rw[aas,abO,List.filterMap_map]
 congr 1
 ·induction p.i3 with
  | nil=>rfl
  | cons x r ih=>rw[abr];show _=x::_;rw[←ih]
 ·induction p.ir with
  | nil=>rfl
  | cons x r ih=>
   rw[aaJ,aaJ,abO,ih]
   congr 1
   cases x.up<;>cases x.lo<;>rfl
theorem Ap(p:Pt)(k:Nat):(Bi p k).length≤p.i3.length+2*k:=by
 unfold Bi
 rw[ZD,Tj]
 have:∀(ls:List Ln),(ls.flatMap fun l=>[l.up,l.lo]).length=2*ls.length:=fun ls=>by
  induction ls with
  | nil=>rfl
  | cons x r ih=>rw[aaJ,ZD,ih];simp only [aae,List.length_nil];omega
 rw[this,aaD]
 omega
def MA(A:Ad):Sp:=fun vs H Q _=>∃(a:Addr)(p:Pt),vs=[.ref a]∧oE A H a p∧wy p.ir.length∧wy p.i3.length∧∀r H',gm H H'→H r=none→vR H' r (named p)→Q (.ref r) H'
theorem vW(T:Txt mg)(O:Ok K mg A):ip P w K mg base mU 1 A.pU A.pV ["patch"] (MA A):=by
 refine O.si.f.rl kA fun js A0 outer s H vs Q E hr h=>?_
 obtain⟨a,p,rfl,⟨dx,vf,pu,cu,vo,g1,g2,⟨as,g3,Tr⟩,⟨cs,g4,Q2⟩,g5⟩,Gz,Fe,q⟩:=h
 have hlen:=aaq Tr
 have NT:=aaq Q2
 have N0:p.ir.length≤4000:=Gz
 have Ll:p.i3.length≤4000:=Fe
 have sz:sizeLine=16777216:=aaB
 refine⟨_,(de (lx 1 kA (BD Ct (by rfl) T.zX ab4 (a_ (gE (pv 0) rfl) d_)))
   (de (iH aaz rfl (iq (gE (pv 0) rfl)) (tM 2 kA) (de (g_ (qR aaM aaY aaZ kO (pv 1) (a_ (gE (pv 2) rfl) d_)))
   (fT (g_ (qR aaM aaY aaZ kO (pv 1) (a_ (gE (pv 2) rfl) d_))))))
   (fT (h_ (zy pQ (gc kR).names [3] rfl (iq (pv 1)) rfl (by decide+kernel) (fun _ _ _ _=>(iF (i:=3) kA.nd rfl (Or.inl rfl))) (fun _ _ _ _=>⟨_,qi (jt (sV (pv 3))),by(try simp only [lJ]);rfl⟩) (fun _ _ _ _=>A6 (pv 3))))))),?_⟩
 refine Fp ?_;intro _ _
 refine⟨_,rfl,a,A.hV,dx,_,_,rfl,g1,O.jm,O.jN,EL,cu,cs,rfl,.inl (hE.of g4),fun l hl=>?_⟩
 have s1:gm H (upd H l (.lst cs)):=(gm.refl H).new hl
 dsimp only [ma];refine IT ?_;intro _
 let Jv:=fun(i:Nat) (σ:St) (H2:Hp)=>∃(v:Option V)(xs:List V),σ=[rr a,rr l,v,none]∧gm H H2∧H2 l=some (.lst xs)∧Paired (Gb H) xs (Bi p i)
 refine⟨_,rfl,a,A.hV,dx,_,_,rfl,s1 _ _ g1,O.jm,O.jM,EK,pu,rfl,⟨_,hE.of (s1 _ _ g3)⟩,i0 (K:=K) (a:=pu) (xs:=as.map V.ref) Jv
  ⟨none,cs,rfl,s1,b_,?_⟩ (by rintro _ _ _ _ ⟨_,_,_,s2,_⟩;exact hE.of (s2 _ _ g3)) ?_ ?_⟩
 ·unfold Bi
  rw[abx,abC,aaa]
  clear NT Ll Fe q g4 s1
  generalize p.i3=ms at Q2
  induction Q2 with
  | nil=>exact .nil
  | cons f t ih=>exact .cons f ih
 ·rintro i v σ H2 hx ⟨v0,xs,rfl,s2,h1,h2⟩
  obtain⟨b,hb,rfl⟩:=j7 hx
  obtain⟨ln,uJ,Q8,vn,vu,vl,k1,k2,k3,k4⟩:=iw Tr hb
  have hi:i<p.ir.length:=(List.getElem?_eq_some_iff.mp uJ).1
  have hxl:xs.length≤p.i3.length+2*i:=by rw[aaq h2];exact Ap p i
  have e:Bi p (i+1)=Bi p i++[ln.up]++[ln.lo]:=by
   unfold Bi
   rw[take_snoc uJ,abk,aaJ,abC,aaw,aaw]
   rfl
  refine⟨_,rfl,.inl ⟨rfl,_,hE.of h1⟩,_,rfl,b,A.hU,Q8,_,_,rfl,s2 _ _ k1,O.iQ,O.iK,Gd,l,_,_,rfl,rfl,h1,by omega,?_⟩
  have s3:gm H (upd H2 l (.lst (xs++[vu]))):=s2.upd hl
  refine⟨_,rfl,.inl ⟨rfl,_,hE.of b_⟩,_,rfl,b,A.hU,Q8,_,_,rfl,s3 _ _ k1,O.iQ,O.iL,Ge,l,_,_,rfl,rfl,b_,by rw[ZD];show xs.length+1<_;omega,?_⟩
  refine⟨_,_,rfl,s3.upd hl,b_,?_⟩
  rw[e]
  exact iC (iC h2 k3) k4
 ·rintro σ H2 ⟨v0,xs,rfl,s2,h1,h2⟩
  have e0:(as.map V.ref).length=p.ir.length:=by rw[Tj,hlen]
  rw[e0] at h2
  have hxl:xs.length≤p.i3.length+2*p.ir.length:=by rw[aaq h2];exact Ap p _
  refine⟨_,rfl,l,rfl,⟨_,hE.of h1⟩,kx (K:=K) (a:=l) (xs:=xs) (by omega) (fun i ys σ H4=>∃(v3:Option V),σ=[rr a,rr l,v0,v3]∧H4=H2∧ys.length≤i∧Paired (lF H) ys (((Bi p p.ir.length).take i).filterMap id))
   ⟨none,rfl,rfl,ZA _,.nil⟩ (by rintro _ _ _ _ _ ⟨_,_,e,e3,_⟩;subst e;exact⟨hE.of h1,e3⟩) ?_ ?_⟩
  ·rintro i v ys σ H4 hx ⟨v3,rfl,rfl,e3,h6⟩
   obtain⟨o,ho,hv⟩:=iw h2 hx
   refine⟨_,rfl,_,rfl,?_⟩
   rw[take_snoc ho,abO]
   cases o with
   | none=>
    rw[show v=V.jo from hv]
    exact⟨_,rfl,rfl,by omega,by simpa using h6⟩
   | some m=>
    obtain⟨t,rfl,ht⟩:=(show lF H v m from hv)
    exact⟨_,rfl,_,rfl,rfl,Nz,iC h6 ⟨t,rfl,ht⟩⟩
  ·rintro ys σ H4 ⟨v3,rfl,rfl,e3,h6⟩ r sS
   rw[aaq h2,aas,←named_eq] at h6
   have s5:=s2.new (o:=.lst ys) sS
   exact q r _ s5 (s2.free sS) ⟨ys,b_,Paired.jZ h6 fun _ _ z=>z.same s5⟩
def Pj(A:Ad):Sp:=fun vs H Q _=>∃(a:Addr)(p:Pt),vs=[.ref a]∧oE A H a p∧wy p.ir.length∧wy p.i3.length∧∀r H',gm H H'→H r=none→H' r=some (.lst (gp (iJ p)))→Q (.ref r) H'
theorem B2(p:Pt):(named p).length≤p.i3.length+2*p.ir.length:=by
 rw[named_eq]
 exact aac (abY _ _) (Ap p _)
theorem sJ(T:Txt mg)(O:Ok K mg A):ip P w K mg base mU 2 A.nG A.nH ["patch"] (Pj A):=by
 have xu:=@vW P w K mg base A T O
 refine O.o9.f.rl kG fun js A0 outer s H vs Q E hr h=>?_
 obtain⟨a,p,rfl,pa,Gz,Fe,q⟩:=h
 obtain⟨dx,vf,pu,cu,vo,g1,g2,g3,g4,g5⟩:=id pa
 have N0:p.ir.length≤4000:=Gz
 have Ll:p.i3.length≤4000:=Fe
 have sz:sizeLine=16777216:=aaB
 have Qm:=B2 p
 refine⟨_,(de (Cz (j:=1) nF (gc jQ).names [2] kG.nd rfl rfl rfl (iq (ml O.si xu hr (a_ (pv 0) d_))) rfl (by decide+kernel) (fun _ _ _ _=>(iF (i:=2) kG.nd rfl (Or.inl rfl))) (fun _ _ _ _=>⟨_,qi (ik GN (jS nU (pv 2) f_ (fun _ _=>rfl)) (gE (pv 0) rfl) (iE _)),by(try simp only [lJ]);rfl⟩) (fun _ _ _ _=>A6 (jS nU (pv 2) f_ (fun _ _=>rfl))))
   (de (iy (jt (sV (gE (pv 0) rfl))) (fT (g_ (qR aaM aaY aaZ kO (pv 1) (a_ (gE (pv 0) rfl) d_)))) hX)
   (fT (h_ (pv 1))))),?_⟩
 refine Fp ?_;intro _ _
 refine⟨_,rfl,a,p,rfl,pa,Gz,Fe,fun n H1 s1 hn0 ⟨ns,hn1,P1⟩=>?_⟩
 have XH:=aaq P1
 let Jv:=fun(i:Nat) (ys:List V) (σ:St) (H4:Hp)=>∃(v2:Option V)(zs:List Str),σ=[rr a,none,v2]∧H4=H1∧ys=gp zs∧zs.length≤i∧zs=(((named p).take i).filter fun n=>n.1≠p.nm).map (·.1)
 refine⟨n,rfl,⟨_,hE.of hn1⟩,kx (K:=K) (a:=n) (xs:=ns) (by omega) Jv
  ⟨none,[],rfl,rfl,rfl,ZA _,rfl⟩ (by rintro _ _ _ _ _ ⟨_,zs,_,e,e2,e3,_⟩;subst e e2;exact⟨hE.of hn1,by rw[Tj];exact e3⟩) ?_ ?_⟩
 ·rintro i v ys σ H4 hx ⟨v2,zs,rfl,rfl,rfl,e3,e4⟩
  obtain⟨m,hm,t,rfl,ht⟩:=iw P1 hx
  have ht0:AZ ((nk m).map kV) 0=some (V.str m.1):=gH (j:=0) rfl rfl
  refine⟨_,rfl,t,_,0,_,rfl,rfl,rn.of ht,ht0,_,rfl,a,A.hV,dx,_,_,rfl,s1 _ _ g1,O.jm,O.iZ,sD,rfl,_,rfl,?_⟩
  have ed:decide (V.str m.1=V.str p.nm)=decide (m.1=p.nm):=by
   by_cases e:m.1=p.nm
   ·rw[ZF e,ZF (aa4 V.str e)]
   ·rw[aaf e,aaf fun z=>e (V.str.inj z)]
  rw[ed]
  subst e4
  by_cases e:m.1=p.nm
  ·rw[ZF e]
   refine jz ⟨_,_,rfl,rfl,rfl,by omega,?_⟩
   rw[take_snoc hm,aaF,aaj (by simpa using e)]
   simp
  ·rw[aaf e]
   refine l7 ⟨_,rfl,t,_,0,_,rfl,rfl,rn.of ht,ht0,_,_,rfl,rfl,jg _ _,by rw[ZD];show _+1≤_;omega,?_⟩
   rw[take_snoc hm,aaF,aab (by simpa using e)]
   simp
 ·rintro ys σ H4 ⟨v2,zs,rfl,rfl,rfl,e3,e4⟩ r sS
  rw[XH,aas] at e4
  have s5:=s1.new (o:=.lst (gp zs)) sS
  refine⟨_,rfl,a,A.hV,dx,_,_,rfl,s5 _ _ g1,O.jm,O.i5,tf,_,rfl,?_⟩
  unfold iJ at q
  rw[←e4] at q
  cases ho:p.other with
  | none=>
   rw[ho] at g5 q
   rw[show vo=V.jo from g5]
   exact⟨_,rfl,q r _ s5 (s1.free sS) (by rw[b_];simp)⟩
  | some x=>
   rw[ho] at g5 q
   rw[show vo=V.str x from g5] at g1 ⊢
   refine⟨_,rfl,.inl ⟨rfl,_,hE.of b_⟩,_,rfl,a,A.hV,dx,_,_,rfl,s5 _ _ g1,O.jm,O.i5,tf,r,_,_,rfl,rfl,b_,by rw[Tj];omega,?_⟩
   exact⟨_,rfl,q r _ (s5.upd (s1.free sS)) (s1.free sS) (by rw[b_];show _=some (HO.lst (gp (zs++[x])));rw[←jg])⟩
def Sn(H:Hp)(a:Addr)(kn:Nat→Option Nm):Prop:=∃kvs:List (Key×V),H a=some (.dK kvs)∧∀s:Nat,match kn s with|some m=>∃v,iR kvs (Sum.inl (s:Int))=some v∧lF H v m|none=>iR kvs (Sum.inl (s:Int))=none
def Wl:Sp:=fun vs H Q _=>∃(a:Addr)(n:Nat)(kn:Nat→Option Nm),vs=[.ref a,.int n]∧Sn H a kn∧n≤4000∧∀p H' xs,gm H H'→H p=none→H' p=some (.lst xs)→xs.length=n→(∀i v,xs[i]?=some v→Gb H v (G0 kn (n-1-i) i))→Q (.ref p) H'
theorem Aq(T:Txt mg)(O:Ok K mg A):ip P w K mg base mU 1 A.tT A.tU ["kept_names","size"] Wl:=by
 refine O.yx.f.rl og fun js A0 outer s H vs Q E hr h=>?_
 obtain⟨a,n,kn,rfl,⟨kvs,h1,h2⟩,hn,q⟩:=h
 have sz:sizeLine=16777216:=aaB
 refine⟨_,(de (lx 2 og (gs FK (iW (a_ ug d_)) (pv 1)))
   (de (iH aaz rfl (wI rfl T.lT (a_ (gs pf (pv 1) f_) (a_ (xD rB f_) (a_ (xD rB f_) d_)))) (tM 3 og) (fT (ui (Js (by exact iY hr) (pv 0) (gs iI (pv 3) f_) (mD (pv 2) (gs iI (pv 3) f_)) ⟨rfl,rfl,rfl,rfl⟩) (uh (pv 2) (pv 3) set_list))))
   (fT (h_ (pv 2))))),?_⟩
 refine Fp ?_;intro _ _
 refine⟨L2.j0,fun l hl=>?_⟩
 refine⟨_,rfl,l,_,_,rfl,rfl,b_,by omega,by omega,by simp;omega,fun p hp=>?_⟩
 have qg:p≠l:=fun z=>by rw[z,b_] at hp;cases hp
 have Gy:H p=none:=by rw[e_ qg] at hp;exact hp
 have e0:(List.replicate (n:Int).toNat [V.jo]).flatten=List.replicate n V.jo:=by
  rw[abT]
  clear q hn
  induction n with
  | zero=>rfl
  | succ n ih=>rw[aa8,abU,ih,aa8];rfl
 rw[e0]
 have s1:gm H (upd (upd H l (.lst [V.jo])) p (.lst (List.replicate n V.jo))):=((gm.refl H).upd hl).upd Gy
 refine⟨_,rfl,_,_,rfl,rfl,_,rfl,_,rfl,_,_,rfl,⟨by omega,by omega,by omega,by omega⟩,?_⟩
 rw[show((n:Int)-2 - -1).toNat=n-1 by omega]
 let Jv:=fun(m:Nat) (σ:St) (H2:Hp)=>∃(v:Option V)(xs:List V),σ=[rr a,ri n,rr p,v]∧gm H H2∧H2 p=some (.lst xs)∧xs.length=n∧∀i v,xs[i]?=some v→n-1≤i+m→Gb H v (G0 kn (n-1-i) i)
 refine uo Jv ⟨none,_,rfl,s1,b_,by simp,fun i v hv hi=>?_⟩ ?_ ?_
 ·have kU:i<n:=by have:=(List.getElem?_eq_some_iff.mp hv).1;simpa using this
  have:v=V.jo:=by
   have:=V_ hv
   exact List.eq_of_mem_replicate this
  rw[this,show n-1-i=0 by omega]
  exact rfl
 ·rintro m σ H2 hm ⟨v0,xs,rfl,s2,k1,k2,k3⟩
  obtain⟨j,hj⟩:∃j,j+m+2=n:=⟨n-2-m,by omega⟩
  rw[show(n:Int)-2+(m:Int) * -1=(j:Int) by omega]
  have hx:xs[j+1]?=some xs[j+1]:=Wd (by omega)
  refine⟨_,rfl,a,rfl,.inl ⟨_,.inl (s2 _ _ h1)⟩,_,rfl,_,_,rfl,rfl,_,rfl,_,rfl,_,_,rfl,rfl,p,_,_,_,rfl,rfl,hE.of k1,gH (j:=j+1) (by omega) hx,_,ja.k (k:=Sum.inl ((j:Int)+1)) (s2 _ _ h1),?_⟩
  refine⟨_,rfl,_,rfl,p,_,_,j,rfl,rfl,k1,CD rfl (by omega),?_⟩
  refine⟨_,_,rfl,s2.upd Gy,b_,by rw[acj];exact k2,fun i v hv hi=>?_⟩
  by_cases e:i=j
  ·subst e
   rw[abd (by omega)] at hv
   have hv:=aau hv
   rw[←hv,show n-1-i=(n-1-(i+1))+1 by omega]
   unfold G0
   have h3:=h2 (i+1)
   rw[show((i+1:Nat):Int)=(i:Int)+1 by omega] at h3
   cases hk:kn (i+1) with
   | none=>
    rw[hk] at h3
    rw[h3]
    exact k3 (i+1) _ hx (by omega)
   | some mm=>
    rw[hk] at h3
    obtain⟨u,z1,z2⟩:=h3
    rw[z1]
    exact z2
  ·rw[abn (fun z=>e z.symm)] at hv
   exact k3 i v hv (by omega)
 ·rintro σ H2 ⟨v0,xs,rfl,s2,k1,k2,k3⟩
  exact⟨_,rfl,q p H2 xs s2 Gy k1 k2 fun i v hv=>k3 i v hv (by omega)⟩
def Wm(K:Qqy)(A:Ad):Sp:=fun vs H Q _=>∃(x:Str)(t a:Addr)(texts:List Str)(kn:Nat→Option Nm),vs=[.str x,.ref t,.ref a]∧hE K H t (gp texts)∧(∀H',gm H H'→hE K H' t (gp texts))∧Sn H a kn∧texts.length≤4000∧∀p H',gm H H'→H p=none→oC A H' p (jD x texts kn)→Q (.ref p) H'
theorem C7(T:Txt mg)(O:Ok K mg A):ip P w K mg base mU 3 A.xZ A.x8 ["patch","texts","kept_names"] (Wm K A):=by
 have Bv:=@Aq P w K mg base A T O
 have yU:=@C6 P w K mg base A T O
 refine O.BS.f.rl jG fun js A0 outer s H vs Q E hr h=>?_
 obtain⟨x,t,a,texts,kn,rfl,_,ht,hkn,hn,q⟩:=h
 have sz:sizeLine=16777216:=aaB
 have et:((gp texts).length:Int)=(texts.length:Int):=by simp
 obtain⟨kvs,h1,h2⟩:=id hkn
 refine⟨_,(de (lx 3 jG (ml O.yx Bv hr (a_ (pv 2) (a_ (gF gz (by rfl) T.jH aay (a_ (pv 1) d_)) d_))))
   (de (lx 4 jG (iW d_))
   (de (lx 5 jG ug)
   (de (iH aaz rfl (Mf rfl T.EE (a_ (pv 1) d_)) (Je rfl (uW (tM 6 jG) (uW (tM 7 jG) GI))) (fT (iy (jt (ph (by exact iY hr) (pv 6) (pv 2))) (fT (lx 5 jG (zI hr (pv 2) (pv 6)))) (de (g_ (qR aaM aaY aaZ kO (pv 4) (a_ (u0 O.O5 yU (hr.mono (by decide)) (by rfl) O.O6 O.tZ.b .nil pM (a_ (Cq (a_ (pv 0) (a_ (gF gz (by rfl) T.jH aay (a_ (pv 4) d_)) d_))) (a_ (pv 7) (a_ (pv 5) (a_ (mD (pv 3) (pv 6)) d_))))) d_)))
   (fT (lx 5 jG (gE (mD (pv 4) (xD rB f_)) rfl)))))))
   (fT (h_ (pv 4))))))),?_⟩
 refine QM ?_;intro _ _ _ _
 refine⟨_,rfl,_,rfl,t,_,rfl,.inl (ht H (gm.refl H)),?_⟩
 rw[et]
 refine⟨a,texts.length,kn,rfl,hkn,hn,fun b H1 bs s1 N1 Qo NQ TF=>?_⟩
 refine⟨L2.j0,fun l hl=>?_⟩
 have W_:H l=none:=s1.free hl
 have s2:gm H1 (upd H1 l (.lst [])):=(gm.refl H1).new hl
 refine⟨_,rfl,t,rfl,⟨_,ht _ (s1.trans s2)⟩,J0 (K:=K) (a:=t) (xs:=gp texts) (fun i σ H2=>∃(v6 v7:Option V)(vu:V)(u:Option Nm)(as:List Addr)(acc:List Ln),σ=[rs x,rr t,rr a,rr b,rr l,some vu,v6,v7]∧gm H1 H2∧H2 l=some (.lst (as.map V.ref))∧Paired (mQ A H2) as acc∧acc.length≤i∧Gb H2 vu u∧acc++oB x kn i acc.length u (texts.drop i)=jD x texts kn)
  ⟨none,none,.jo,none,[],[],rfl,s2,b_,.nil,ZA _,rfl,rfl⟩ (by rintro _ _ _ _ ⟨_,_,_,_,_,_,_,s3,_⟩;exact ht _ (s1.trans s3)) ?_ ?_⟩
 ·rintro i tv e σ H2 hx ⟨v6,v7,vu,u,as,acc,rfl,s3,k1,k2,k3,k4,k5⟩ he
  obtain⟨tx,htx,rfl⟩:=lb hx
  have hi:i<texts.length:=(List.getElem?_eq_some_iff.mp htx).1
  have hd:texts.drop i=tx::texts.drop (i+1):=by rw[aaQ hi];congr 1;exact(List.getElem?_eq_some_iff.mp htx).2
  have s4:gm H2 (upd H2 e (.tup [.int i,.str tx])):=(gm.refl H2).new he
  have N2:=s3.trans s4
  rw[hd] at k5
  unfold oB at k5
  refine⟨e,_,rfl,rn.of b_,rfl,_,_,rfl,_,_,rfl,rfl,?_⟩
  refine⟨_,rfl,_,rfl,a,_,rfl,ja.k (k:=Sum.inl (i:Int)) (N2 _ _ (s1 _ _ h1)),_,rfl,?_⟩
  have h3:=h2 i
  cases hk:kn i with
  | some m=>
   rw[hk] at h3 k5
   obtain⟨u',z1,z2⟩:=h3
   rw[z1]
   refine l7 ⟨_,rfl,_,rfl,a,u',rfl,?_,?_⟩
   ·have:=ja.k (k:=Sum.inl (i:Int)) (N2 _ _ (s1 _ _ h1))
    rw[z1] at this
    exact this
   ·exact⟨_,_,_,some m,as,acc,rfl,N2,s4 _ _ k1,Paired.jZ k2 fun _ _ z=>z.same s4,by omega,(z2.same s1).same N2,k5⟩
  | none=>
   rw[hk] at h3 k5
   rw[h3]
   have XG:=aaq k2
   have el:((as.map V.ref).length:Int)=(acc.length:Int):=by rw[Tj,XG]
   refine jz ⟨_,rfl,.inl ⟨rfl,_,hE.of (s4 _ _ k1)⟩,_,rfl,_,rfl,l,_,rfl,.inl (hE.of (s4 _ _ k1)),?_⟩
   rw[el]
   refine⟨L2.j0,fun nt hnt=>?_⟩
   have s5:=N2.new (o:=.tup [.str x,.int acc.length]) hnt
   obtain⟨bv,hbv⟩:∃bv,bs[i]?=some bv:=⟨_,Wd (by omega)⟩
   refine⟨_,rfl,_,rfl,_,rfl,_,rfl,b,_,_,_,rfl,rfl,hE.of (s5 _ _ Qo),gH rfl hbv,?_⟩
   intro o dx no Qp XI
   have Ja:gm (upd (upd H2 e (.tup [.int i,.str tx])) nt (.tup [.str x,.int acc.length])) (upd (upd (upd (upd H2 e (.tup [.int i,.str tx])) nt (.tup [.str x,.int acc.length])) dx (.own o)) o (.ins A.hU dx [])):=fun c u e=>by
    rw[e_ (gj e no),e_ (gj e Qp)]
    exact e
   refine⟨o,dx,_,_,_,_,rfl,b_,fun H6 r6 r7=>⟨rfl,?_⟩⟩
   have s6:gm (upd (upd H2 e (.tup [.int i,.str tx])) nt (.tup [.str x,.int acc.length])) H6:=fun c u ec=>by
    rw[r6 c (gj ec no)]
    exact Ja c u ec
   have N3:gm H2 H6:=(s4.new hnt).trans s6
   have T3:=N3 _ _ k1
   have LV:mQ A H6 o ⟨(x,acc.length),tx,u,G0 kn (texts.drop (i+1)).length i⟩:=⟨dx,.ref nt,vu,bv,r7,⟨nt,rfl,s6 _ _ b_⟩,k4.same N3,by
    have:=TF i bv hbv
    rw[List.length_drop,show texts.length-(i+1)=texts.length-1-i by omega]
    exact(this.same s1).same (s3.trans N3)⟩
   refine⟨l,_,_,rfl,rfl,T3,by rw[Tj];omega,?_⟩
   have lo:l≠o:=fun z=>by rw[z,r7] at T3;cases T3
   have e7:upd H6 l (.lst (as.map V.ref++[V.ref o])) l=some (.lst ((as++[o]).map V.ref)):=by rw[b_,aar];rfl
   have up:∀c ln,mQ A H6 c ln→mQ A (upd H6 l (.lst (as.map V.ref++[V.ref o]))) c ln:=fun c ln z=>z.upd T3 (fun _ z=>by cases z) (fun _ _ _ z=>by cases z)
   have r77:upd H6 l (.lst (as.map V.ref++[V.ref o])) o=some (.ins A.hU dx (Ms (.ref nt) (.str tx) vu bv)):=by rw[e_ lo.symm];exact r7
   refine⟨_,rfl,_,rfl,l,_,_,_,rfl,rfl,hE.of b_,Eb _ _,o,A.hU,dx,_,_,rfl,r77,O.iQ,O.hG,i7,?_⟩
   refine⟨_,_,_,some (x,acc.length),as++[o],acc++[⟨(x,acc.length),tx,u,G0 kn (texts.drop (i+1)).length i⟩],rfl,(s3.trans N3).upd hl,e7,?_,Nz,?_,?_⟩
   ·exact iC (Paired.jZ k2 fun c ln z=>up c ln (z.same N3)) (up _ _ LV)
   ·exact lF.upd ⟨nt,rfl,s6 _ _ b_⟩ T3 (fun _ z=>by cases z)
   ·rw[aaw,ZD]
    exact k5
 ·rintro σ H2 ⟨v6,v7,vu,u,as,acc,rfl,s3,k1,k2,k3,k4,k5⟩
  rw[show(gp texts).length=texts.length by simp,ach] at k5
  rw[show oB x kn texts.length acc.length u []=[] from rfl,aaa] at k5
  rw[k5] at k2
  exact⟨_,rfl,q l H2 (s1.trans s3) W_ ⟨as,k1,k2⟩⟩
theorem G8{row:List Ln}{q:Nat×Nat}:∀{xs:List (Nat×Nat)},q.2∉xs.map (·.2)→∀s,l8 row (xs++[q]) s=if q.2=s then(row[q.1]?).map (·.nm) else l8 row xs s
 | [],_,s=>rfl
 | x::r,h,s=>by
  rw[aav] at h
  have h1:q.2≠x.2:=fun z=>h (by rw[z];exact aat)
  have h2:q.2∉r.map (·.2):=fun z=>h (aad _ z)
  show(if x.2=s then _ else l8 row (r++[q]) s)=if q.2=s then _ else(if x.2=s then _ else l8 row r s)
  by_cases e:x.2=s
  ·rw[aap e,aak (fun z=>h1 (by rw[z,e])),aap e]
  ·rw[aak e,aak e,G8 h2 s]
theorem Io{row:List Ln}{q:Nat×Nat}{l:Ln}(xs:List (Nat×Nat))(h:row[q.1]?=some l):ur row (xs++[q])=ur row xs++[l.nm]:=by
 unfold ur
 rw[abO,abr,h]
 rfl
theorem Kv(T:Txt mg)(O:Ok K mg A):ip P w K mg base mU 3 A.Kd A.Ke ["old","new"] Kp.ZJ:=
 Kp.My O.kept.f ⟨T.jH,T.lT,T.R4⟩ O.se.f O.se.b O.se.m O.uD.f O.uD.b O.uD.m O.uE.f O.uE.b O.uE.m
def So(A:Ad):Sp:=fun vs H Q _=>∃(x f:Str)(r t:Addr)(row:List Ln)(texts:List Str),vs=[.str x,.str f,.ref r,.ref t]∧oC A H r row∧H t=some (.lst (gp texts))∧row.length≤1000∧texts.length≤1000∧
 ∀p H',gm H H'→H p=none→oE A H' p (kc x f row texts)→Q (.ref p) H'
theorem vX(T:Txt mg)(O:Ok K mg A):ip P w K mg base mU 4 A.p6 A.p7 ["patch","file","row","texts"] (So A):=by
 have Qq:=@Kv P w K mg base A T O
 have Ff:=@C7 P w K mg base A T O
 have jX:=@pA P w K mg base A T O
 refine O.sx.f.rl iO fun js A0 outer s H vs Q E hr h=>?_
 obtain⟨x,f,r,t,row,texts,rfl,Fc,ht,hn,hm,q⟩:=h
 obtain⟨as,A2,Dt⟩:=id Fc
 have hlen:=aaq Dt
 have sz:sizeLine=16777216:=aaB
 refine⟨_,(de (lx 4 iO nV)
   (de (mV (i:=5) iO.nd rfl (Or.inr rfl) mJ)
   (de (iH aaz rfl (iq (ml O.kept Qq hr (a_ (xK my (gc jU).names [9] rfl (iq (pv 2)) rfl (by decide+kernel) (fun _ _ _ _=>(iF (i:=9) iO.nd rfl (Or.inl rfl))) (fun _ _ _ _=>mj) (fun _ _ _ _=>A6 (gE (pv 9) rfl))) (a_ (pv 3) d_)))) (Je rfl (uW (tM 6 iO) (uW (tM 7 iO) GI))) (de (jy (by exact iY hr) (pv 4) (pv 7) (gE (mD (pv 2) (pv 6)) rfl) rfl)
   (fT (jy (by exact iY hr) (pv 5) (gE (mD (pv 2) (pv 6)) rfl) kW rfl))))
   (de (Cz (j:=8) my (gc jU).names [9] iO.nd rfl rfl rfl (iq (pv 2)) rfl (by decide+kernel) (fun _ _ _ _=>(iF (i:=9) iO.nd rfl (Or.inl rfl))) (fun _ _ _ _=>⟨_,qi (jt (lu (by exact iY hr) (gE (pv 9) rfl) (pv 5))),by(try simp only [lJ]);rfl⟩) (fun _ _ _ _=>A6 (gE (pv 9) rfl)))
   (fT (h_ (u0 O.CV jX (hr.mono (by decide)) (by rfl) O.CW O.lW.b .nil pM (a_ (pv 0) (a_ (pv 1) (a_ (ml O.BS Ff hr (a_ (pv 0) (a_ (pv 3) (a_ (pv 4) d_)))) (a_ (pv 8) (a_ ug d_)))))))))))),?_⟩
 refine QM ?_;intro _ _ _ _
 intro k Q9 g Vd
 have XJ:k≠g:=fun z=>by rw[←z,b_] at Vd;cases Vd
 have hgH:H g=none:=(gm.refl H |>.new (o:=.dK []) Q9).free Vd
 have s1:gm H (upd (upd H k (.dK [])) g (.dT [])):=((gm.refl H).new Q9).new Vd
 have T4:(upd (upd H k (.dK [])) g (.dT [])) k=some (.dK []):=by rw[e_ XJ];exact b_
 have QW:(upd (upd H k (.dK [])) g (.dT [])) g=some (.dT []):=b_
 generalize upd (upd H k (.dK [])) g (.dT [])=H1 at s1 T4 QW
 have Qk:(as.map V.ref).length≤sizeLine:=by rw[Tj,hlen];omega
 let Jv:=fun(i:Nat) (ys:List V) (σ:St) (H4:Hp)=>∃(v9:Option V),σ=[rs x,rs f,rr r,rr t,rr k,rr g,none,none,none,v9]∧H4=H1∧ys=gp ((row.take i).map (·.tx))
 refine⟨_,rfl,r,rfl,⟨_,hE.of (s1 _ _ A2)⟩,kx (K:=K) (a:=r) (xs:=as.map V.ref) Qk Jv
  ⟨none,rfl,rfl,rfl⟩ (by rintro _ _ _ _ _ ⟨_,_,e,e2⟩;subst e e2;exact⟨hE.of (s1 _ _ A2),by rw[Tj,Tj,aaD];omega⟩) ?_ ?_⟩
 ·rintro i v ys σ H4 hx ⟨v9,rfl,rfl,rfl⟩
  obtain⟨b,hb,rfl⟩:=j7 hx
  obtain⟨ln,uJ,dx,vn,vu,vl,k1,k2,k3,k4⟩:=iw Dt hb
  refine⟨_,rfl,b,A.hU,dx,_,_,rfl,s1 _ _ k1,O.iQ,O.jK,Al,_,rfl,rfl,?_⟩
  rw[take_snoc uJ,aar,jg]
  rfl
 ·rintro ys σ H4 ⟨v9,rfl,rfl,rfl⟩ o Ve
  rw[Tj,hlen,aas]
  have s2:gm H4 (upd H4 o (.lst (gp (row.map (·.tx))))):=(gm.refl H4).new Ve
  refine⟨_,rfl,row.map (·.tx),texts,o,t,rfl,b_,s2 _ _ (s1 _ _ ht),by rw[Tj];exact hn,hm,fun pr H5 ps s5 IM T5 Qr=>?_⟩
  have Qs:gm H4 H5:=s2.trans s5
  have T6:gm H H5:=s1.trans Qs
  have rise:=pP (row.map (·.tx)) texts
  rw[Tj] at rise
  have XM:(K01.kept (row.map (·.tx)) texts).length≤1000:=by
   rw[K01.xM]
   have:=K01.Er (row.map (·.tx)) texts
   rw[Tj] at this
   omega
  generalize hqs:K01.kept (row.map (·.tx)) texts=qs at Qr rise XM
  have I_:=aaq Qr
  let Jv:=fun(i:Nat) (σ:St) (H6:Hp)=>∃(v6 v7:Option V)(kk:List (Key×V))(kg:List (List Key×V)),σ=[rs x,rs f,rr r,rr t,rr k,rr g,v6,v7,none,none]∧(∀b o,H5 b=some o→b≠k→b≠g→H6 b=some o)∧H6 k=some (.dK kk)∧kk.length≤i∧(∀s:Nat,match l8 row (qs.take i) s with|some m=>∃v,iR kk (Sum.inl (s:Int))=some v∧lF H v m|none=>iR kk (Sum.inl (s:Int))=none)∧H6 g=some (.dT kg)∧kg.length≤i∧QQ kg (ur row (qs.take i))
  refine⟨pr,rfl,⟨_,hE.of T5⟩,i0 (K:=K) (a:=pr) (xs:=ps) Jv
   ⟨none,none,[],[],rfl,fun b o e _ _=>e,Qs _ _ T4,ZA _,(fun s=>by rw[abx];exact rfl),Qs _ _ QW,ZA _,(fun n=>rfl)⟩ (by rintro _ _ _ _ ⟨_,_,_,_,_,e,_⟩;exact hE.of (e _ _ T5 (fun z=>by rw[z] at IM;rw[s2 _ _ T4] at IM;cases IM) (fun z=>by rw[z] at IM;rw[s2 _ _ QW] at IM;cases IM))) ?_ ?_⟩
  ·rintro i v σ H6 hx ⟨v6,v7,kk,kg,rfl,e1,e2,e3,e4,e5,e6,e7⟩
   obtain⟨qq,hq,pt,rfl,LH⟩:=lB Qr hx
   have XN:H5 k=some (.dK []):=Qs _ _ T4
   have XO:H5 g=some (.dT []):=Qs _ _ QW
   have hi:i<qs.length:=(List.getElem?_eq_some_iff.mp hq).1
   obtain⟨Qo,Lg⟩:=rise.2 qq (V_ hq)
   obtain⟨b,Vc,ln0⟩:=Ao Dt (Wd Qo)
   have Fb:row[qq.1]?=some row[qq.1]:=Wd Qo
   generalize row[qq.1]=ln at ln0 Fb
   obtain⟨dx,vn,vu,vl,z1,⟨nt,rfl,z2⟩,z3,z4⟩:=ln0
   have up:∀{b o},H b=some o→H6 b=some o:=fun{b o} e=>e1 b o (T6 _ _ e) (fun z=>by rw[z,Q9] at e;cases e) (fun z=>by rw[z,hgH] at e;cases e)
   refine⟨pt,_,rfl,rn.of (e1 _ _ LH (iX LH XN (fun z=>by cases z)) (iX LH XO (fun z=>by cases z))),rfl,_,_,rfl,_,_,rfl,rfl,?_⟩
   refine⟨_,rfl,_,rfl,r,_,_,_,rfl,rfl,hE.of (up A2),gH rfl Vc,b,A.hU,dx,_,_,rfl,up z1,O.iQ,O.hG,i7,_,rfl,_,rfl,k,_,rfl,nK.k (k:=Sum.inl (qq.2:Int)) e2 (by omega),?_⟩
   have XQ:∀{b o},H b=some o→upd H6 k (.dK (putK kk (Sum.inl (qq.2:Int)) (V.ref nt))) b=some o:=fun{b o} e=>by rw[e_ (fun z=>by rw[z,Q9] at e;cases e)];exact up e
   have WZ:=jq kk (Sum.inl (qq.2:Int):Key) (V.ref nt)
   have K9:=jq kg (nk ln.nm) (V.bl true)
   refine⟨_,rfl,_,rfl,_,rfl,r,_,_,_,rfl,rfl,hE.of (XQ A2),gH rfl Vc,b,A.hU,dx,_,_,rfl,XQ z1,O.iQ,O.hG,i7,g,_,rfl,nK.t (k:=nk ln.nm) (by rw[e_ XJ.symm];exact e5) (XQ z2) (by omega),?_⟩
   have M9:qq.2∉(qs.take i).map (·.2):=fun z=>by
    obtain⟨w1,hw1,ew⟩:=List.mem_map.mp z
    obtain⟨j,hj⟩:=aaO.mp hw1
    have IL:j<i:=by have:=(List.getElem?_eq_some_iff.mp hj).1;rw[aaD] at this;omega
    rw[abN,aap IL] at hj
    obtain⟨Qt,Qu⟩:=List.getElem?_eq_some_iff.mp hj
    have:=abg.mp rise.1 j i Qt hi IL
    rw[Qu,(List.getElem?_eq_some_iff.mp hq).2] at this
    omega
   refine⟨_,_,_,_,rfl,fun b o e nk ng=>?_,by rw[e_ XJ];exact b_,by omega,fun s=>?_,b_,by omega,?_⟩
   ·rw[e_ ng,e_ nk];exact e1 b o e nk ng
   ·rw[take_snoc hq,G8 M9,j8]
    by_cases es:qq.2=s
    ·subst es
     rw[aap rfl,aap rfl,Fb]
     exact⟨_,rfl,nt,rfl,z2⟩
    ·rw[aak es,aak (fun z=>es (by have:=Sum.inl.inj z;omega))]
     exact e4 s
   ·rw[take_snoc hq,Io _ Fb]
    exact e7.put ln.nm _
  ·rintro σ H6 ⟨v6,v7,kk,kg,rfl,e1,e2,e3,e4,e5,e6,e7⟩
   rw[←I_,aas] at e4 e7
   have up:∀{b o},H b=some o→H6 b=some o:=fun{b o} e=>e1 b o (T6 _ _ e) (fun z=>by rw[z,Q9] at e;cases e) (fun z=>by rw[z,hgH] at e;cases e)
   have sH6:gm H H6:=fun b o e=>up e
   refine⟨_,rfl,r,rfl,⟨_,hE.of (up A2)⟩,kx (K:=K) (a:=r) (xs:=as.map V.ref) Qk (fun i ys σ H4=>∃(v9:Option V),σ=[rs x,rs f,rr r,rr t,rr k,rr g,v6,v7,none,v9]∧H4=H6∧ys.length≤i∧Paired (lF H) ys (((row.take i).filter fun l=>l.nm∉ur row qs).map (·.nm)))
    ⟨none,rfl,rfl,ZA _,.nil⟩ (by rintro _ _ _ _ _ ⟨_,_,e,e20,_⟩;rw[e];exact⟨hE.of (up A2),e20⟩) ?_ ?_⟩
   ·rintro i v ys σ H7 hx ⟨v9,rfl,rfl,e8,e9⟩
    obtain⟨b,hb,rfl⟩:=j7 hx
    obtain⟨ln,uJ,dx,vn,vu,vl,k1,⟨nt,rfl,k2⟩,k3,k4⟩:=iw Dt hb
    refine⟨_,rfl,b,A.hU,dx,_,_,rfl,up k1,O.iQ,O.hG,i7,_,rfl,g,_,rfl,ja.t (k:=nk ln.nm) e5 (up k2),_,rfl,?_⟩
    rw[e7 ln.nm,take_snoc uJ,aaF,aar]
    by_cases xp:ln.nm∈ur row qs
    ·rw[ZF xp]
     refine jz ⟨_,rfl,rfl,by omega,?_⟩
     rw[aaj (by simpa using xp),aaX,List.map_nil,aaa]
     exact e9
    ·rw[aaf xp]
     refine l7 ⟨_,rfl,b,A.hU,dx,_,_,rfl,up k1,O.iQ,O.hG,i7,_,rfl,rfl,Nz,?_⟩
     rw[aab (by simpa using xp),aaX]
     exact iC e9 ⟨nt,rfl,k2⟩
   ·rintro ys σ H7 ⟨v9,rfl,rfl,e8,e9⟩ c T7
    rw[Tj,hlen,aas] at e9
    have s8:=sH6.new (o:=.lst ys) T7
    have Xu:c≠k:=fun z=>by rw[z,e2] at T7;cases T7
    refine⟨_,rfl,_,rfl,_,rfl,_,rfl,_,rfl,x,t,k,texts,l8 row qs,rfl,hE.of (s8 _ _ ht),fun H' s'=>hE.of (s' _ _ (s8 _ _ ht)),⟨kk,by rw[e_ Xu.symm];exact e2,fun s=>?_⟩,by omega,fun pu H9 s9 hpu0 XR=>?_⟩
    ·have:=e4 s
     cases ek:l8 row qs s with
     | none=>rw[ek] at this;exact this
     | some m=>rw[ek] at this;obtain⟨v,w1,w2⟩:=this;exact⟨v,w1,w2.same s8⟩
    ·refine⟨_,rfl,?_⟩
     intro o dx no Qp XI
     refine⟨o,dx,_,_,_,_,_,rfl,b_,fun Qv r6 r7=>⟨rfl,?_⟩⟩
     have GA:gm H9 Qv:=fun c u ec=>by
      rw[r6 c (gj ec no),e_ (gj ec no),e_ (gj ec Qp)]
      exact ec
     have T8:=(s8.trans s9).trans GA
     refine q o Qv T8 ((s8.trans s9).free no) ?_
     unfold kc
     rw[hqs]
     exact⟨dx,_,pu,c,.jo,r7,rfl,XR.same GA,⟨ys,GA _ _ (s9 _ _ b_),Paired.jZ e9 fun _ _ z=>z.same T8⟩,rfl⟩
noncomputable def me:Str:=Str.ofString "abcdefghijklmnopqrstuvwxyz0123456789"
def Good(x:Str):Prop:=1≤x.length∧x.length≤12∧∀c∈x.cps.toList,c∈me.cps.toList
def kI(x:Str):Prop:=(reprText x).length≤1048576∧x.length≤1000
noncomputable abbrev sk(x:Str):Key:=Sum.inr x
theorem Ar{x:Str}{l:List Str}:sk x∈l.map sk↔x∈l:=by
 constructor
 ·intro h
  obtain⟨m,hm,e⟩:=List.mem_map.mp h
  rw[←aci e];exact hm
 ·exact fun h=>Wc h
theorem ko{dk:List (Key×V)}{l:List Str}(h:dk.map (·.1)=l.map sk):dk.length=l.length:=by
 have:=aa4 List.length h
 rwa [Tj,Tj] at this
theorem xj{dk:List (Key×V)}{l:List Str}(h:dk.map (·.1)=l.map sk){i:Nat}{k:Key}{v:V}(hi:dk[i]?=some (k,v)):∃x,l[i]?=some x∧k=sk x:=by
 have h1:(dk.map (·.1))[i]?=some k:=by rw[aam,hi];rfl
 rw[h,aam] at h1
 obtain⟨n,e,e2⟩:=Option.map_eq_some_iff.mp h1
 exact⟨n,e,e2.symm⟩
theorem kq{dk:List (Key×V)}{l:List Str}(h:dk.map (·.1)=l.map sk)(x:Str):(iR dk (sk x)).isSome=decide (x∈l):=by
 by_cases m:x∈l
 ·rw[ZF m];exact tj.mpr (by rw[h];exact Ar.mpr m)
 ·rw[aaf m,abE];exact fun z=>m (Ar.mp (by rw[←h];exact tj.mp z))
theorem qc{dk:List (Key×V)}{l:List Str}(h:dk.map (·.1)=l.map sk){x:Str}(hx:x∉l)(v:V):(putK dk (sk x) v).map (·.1)=(l++[x]).map sk:=by
 rw[qb,h,aak (fun z=>hx (Ar.mp z)),aar];rfl
noncomputable def A1(m n h:Addr):List (Str×V):=[("made",.ref m),("needs",.ref n),("held",.ref h)]
theorem Pk(m n h:Addr):jC "held" (.ref h) (jC "needs" (.ref n) (jC "made" (.ref m) []))=A1 m n h:=by kernel_rfl
theorem k8(m n h:Addr):(A1 m n h).lookup ("held":Str)=some (V.ref h):=by kernel_rfl
theorem qd(m n h:Addr):(A1 m n h).lookup ("made":Str)=some (V.ref m):=by kernel_rfl
theorem tm(m n h:Addr):(A1 m n h).lookup ("needs":Str)=some (V.ref n):=by kernel_rfl
structure Dp where
 dx:Addr
 m:Addr
 n:Addr
 h:Addr
 ha:Str→Addr
 kM:List (Key×V)
 kN:List (Key×V)
 kH:List (Key×V)
structure NC(A:Ad)(H:Hp)(d:Addr)(D:Dk)(W:Addr→Prop)(π:Dp):Prop where
 hd:H d=some (.ins A.gq π.dx (A1 π.m π.n π.h))
 hm:H π.m=some (.dK π.kM)
 hn:H π.n=some (.dK π.kN)
 hh:H π.h=some (.dK π.kH)
 mn:π.m≠π.n
 mh:π.m≠π.h
 nh:π.n≠π.h
 wm:W π.m
 wn:W π.n
 wh:W π.h
 km:π.kM.map (·.1)=D.names.map sk
 vm:∀p∈D.made,∃a,iR π.kM (sk p.nm)=some (.ref a)∧oE A H a p
 kn:π.kN.map (·.1)=D.names.map sk
 vn:∀x∈D.names,∃(a:Addr)(kv:List (Key×V))(l:List Str),iR π.kN (sk x)=some (.ref a)∧¬W a∧H a=some (.dK kv)∧kv.map (·.1)=l.map sk∧l.Nodup∧∀y,y∈l↔y∈D.iN x
 kh:π.kH.map (·.1)=D.stores.map sk
 vh:∀s∈D.stores,iR π.kH (sk s)=some (.ref (π.ha s))∧W (π.ha s)∧π.ha s≠π.m∧π.ha s≠π.n∧π.ha s≠π.h∧∃kv:List (Key×V),H (π.ha s)=some (.dK kv)∧kv.map (·.1)=(D.held s).map sk
 inj:∀s∈D.stores,∀t∈D.stores,π.ha s=π.ha t→s=t
 dk:∀b,W b→∃kv,H b=some (.dK kv)
def ia(A:Ad)(H:Hp)(d:Addr)(D:Dk)(W:Addr→Prop):Prop:=∃π,NC A H d D W π
theorem NC.same{A:Ad}{H H':Hp}{d:Addr}{D:Dk}{W:Addr→Prop}{π:Dp}(x:NC A H d D W π)(s:gm H H'):NC A H' d D W π where
 hd:=s _ _ x.hd
 hm:=s _ _ x.hm
 hn:=s _ _ x.hn
 hh:=s _ _ x.hh
 mn:=x.mn
 mh:=x.mh
 nh:=x.nh
 wm:=x.wm
 wn:=x.wn
 wh:=x.wh
 km:=x.km
 vm:=fun p hp=>by obtain⟨a,h1,h2⟩:=x.vm p hp;exact⟨a,h1,h2.same s⟩
 kn:=x.kn
 vn:=fun y hy=>by obtain⟨a,kv,l,h1,h2,h3,h4⟩:=x.vn y hy;exact⟨a,kv,l,h1,h2,s _ _ h3,h4⟩
 kh:=x.kh
 vh:=fun t ht=>by obtain⟨h1,h2,h3,h4,h5,kv,h6,h7⟩:=x.vh t ht;exact⟨h1,h2,h3,h4,h5,kv,s _ _ h6,h7⟩
 inj:=x.inj
 dk:=fun b hb=>by obtain⟨kv,h⟩:=x.dk b hb;exact⟨kv,s _ _ h⟩
theorem ia.same{A:Ad}{H H':Hp}{d:Addr}{D:Dk}{W:Addr→Prop}(x:ia A H d D W)(s:gm H H'):ia A H' d D W:=by
 obtain⟨π,x⟩:=x
 exact⟨π,x.same s⟩
def lZ(W:Addr→Prop)(H H':Hp):Prop:=∀b o,H b=some o→¬W b→H' b=some o
theorem lZ.of{W:Addr→Prop}{H H':Hp}(s:gm H H'):lZ W H H':=fun b o e _=>s b o e
theorem ia.lst{A:Ad}{H:Hp}{d a:Addr}{D:Dk}{W:Addr→Prop}{xs:List V}(x:ia A H d D W)(h:H a=some (.lst xs)):¬W a:=fun z=>by
 obtain⟨π,x⟩:=x
 obtain⟨kv,e⟩:=x.dk a z
 rw[h] at e;cases e
theorem ia.tup{A:Ad}{H:Hp}{d a:Addr}{D:Dk}{W:Addr→Prop}{xs:List V}(x:ia A H d D W)(h:H a=some (.tup xs)):¬W a:=fun z=>by
 obtain⟨π,x⟩:=x
 obtain⟨kv,e⟩:=x.dk a z
 rw[h] at e;cases e
theorem ia.jo{A:Ad}{H:Hp}{d a:Addr}{D:Dk}{W:Addr→Prop}(x:ia A H d D W)(h:H a=none):¬W a:=fun z=>by
 obtain⟨π,x⟩:=x
 obtain⟨kv,e⟩:=x.dk a z
 rw[h] at e;cases e
theorem jx{m n h:Addr}:(A1 m n h).lookup ("check_store":Str)=none:=by kernel_rfl
theorem qG{m n h:Addr}:(A1 m n h).lookup ("check_new":Str)=none:=by kernel_rfl
theorem pB{m n h:Addr}:(A1 m n h).lookup ("check_held":Str)=none:=by kernel_rfl
theorem Bj{m n h:Addr}:(A1 m n h).lookup ("check_made":Str)=none:=by kernel_rfl
theorem C8{m n h:Addr}:(A1 m n h).lookup ("keep":Str)=none:=by kernel_rfl
theorem sL{m n h:Addr}:(A1 m n h).lookup ("has":Str)=none:=by kernel_rfl
theorem Bl{m n h:Addr}:(A1 m n h).lookup ("patches_of":Str)=none:=by kernel_rfl
theorem o_{m n h:Addr}:(A1 m n h).lookup ("sight_of":Str)=none:=by kernel_rfl
theorem Gj{m n h:Addr}:(A1 m n h).lookup ("row":Str)=none:=by kernel_rfl
theorem sM{m n h:Addr}:(A1 m n h).lookup ("quarrels":Str)=none:=by kernel_rfl
theorem Kw{m n h:Addr}:(A1 m n h).lookup ("leans":Str)=none:=by kernel_rfl
theorem Kx{m n h:Addr}:(A1 m n h).lookup ("begin":Str)=none:=by kernel_rfl
theorem B3{m n h:Addr}:(A1 m n h).lookup ("record":Str)=none:=by kernel_rfl
theorem Ky{m n h:Addr}:(A1 m n h).lookup ("cut":Str)=none:=by kernel_rfl
theorem y_{m n h:Addr}:(A1 m n h).lookup ("back":Str)=none:=by kernel_rfl
theorem C9{m n h:Addr}:(A1 m n h).lookup ("take":Str)=none:=by kernel_rfl
theorem MB{m n h:Addr}:(A1 m n h).lookup ("drop":Str)=none:=by kernel_rfl
noncomputable def UN:Dk:=⟨[],fun _=>[],[],fun _=>[]⟩
theorem Wn:Inv UN:=⟨aa6,(fun p hp=>by cases hp),(fun p hp=>by cases hp),⟨fun _=>0,fun p hp=>by cases hp⟩,(fun i p hp=>by simp[UN] at hp),(fun x hx=>by cases hx),aa6,(fun s hs=>by cases hs),(fun s hs=>by cases hs)⟩
def Pl(A:Ad):Sp:=fun vs H Q _=>∃(p dx:Addr),vs=[.ref p]∧H p=some (.ins A.gq dx [])∧∀(H':Hp)(W:Addr→Prop),ia A H' p UN W→(∀b,W b→H b=none)→(∀b o,H b=some o→b≠p→H' b=some o)→Q .jo H'
theorem C_(T:Txt mg)(O:Ok K mg A):ip P w K mg base mU 1 A.nv A.qU ["self"] (Pl A):=by
 refine O.t_.f.rl wZ fun js A0 outer s H vs Q E hr h=>?_
 obtain⟨p,dx,rfl,hp,k⟩:=h
 refine⟨_,(de (lH (pv 0) nV rfl)
   (de (lH (pv 0) nV rfl)
   (fT (lH (pv 0) nV rfl)))),?_⟩
 refine Fp ?_;intro _ _
 intro m hm
 have GB:p≠m:=gj hp hm
 refine⟨_,rfl,p,A.gq,dx,_,rfl,(by rw[e_ GB];exact hp),O.gC,O.i6,(by show 0<1000;decide),?_⟩
 intro n hn
 have T9:p≠n:=gj b_ hn
 have Vf:m≠n:=by
  intro z;subst z;rw[e_ GB.symm,b_] at hn;cases hn
 have hH:H n=none:=by rw[e_ T9.symm,e_ Vf.symm] at hn;exact hn
 refine⟨_,rfl,p,A.gq,dx,_,rfl,(by rw[e_ T9];exact b_),O.gC,O.jd,(by show 1<1000;decide),?_⟩
 intro h hh
 have Vg:p≠h:=gj b_ hh
 have XS:n≠h:=by
  intro z;subst z;rw[e_ T9.symm,b_] at hh;cases hh
 have XT:m≠h:=by
  intro z;subst z;rw[e_ GB.symm,e_ Vf,e_ GB.symm,b_] at hh;cases hh
 have hhH:H h=none:=by rw[e_ Vg.symm,e_ XS.symm,e_ Vg.symm,e_ XT.symm] at hh;exact hh
 refine⟨_,rfl,p,A.gq,dx,_,rfl,(by rw[e_ Vg];exact b_),O.gC,O.iB,(by show 2<1000;decide),?_⟩
 have e1:∀{o},upd (upd (upd (upd (upd (upd H m (.dK [])) p (.ins A.gq dx (jC "made" (.ref m) []))) n (.dK [])) p (.ins A.gq dx (jC "needs" (.ref n) (jC "made" (.ref m) [])))) h (.dK [])) p o m=some (.dK []):=by
  intro o;rw[e_ GB.symm,e_ XT,e_ GB.symm,e_ Vf,e_ GB.symm,b_]
 have e2:∀{o},upd (upd (upd (upd (upd (upd H m (.dK [])) p (.ins A.gq dx (jC "made" (.ref m) []))) n (.dK [])) p (.ins A.gq dx (jC "needs" (.ref n) (jC "made" (.ref m) [])))) h (.dK [])) p o n=some (.dK []):=by
  intro o;rw[e_ T9.symm,e_ XS,e_ T9.symm,b_]
 have e3:∀{o},upd (upd (upd (upd (upd (upd H m (.dK [])) p (.ins A.gq dx (jC "made" (.ref m) []))) n (.dK [])) p (.ins A.gq dx (jC "needs" (.ref n) (jC "made" (.ref m) [])))) h (.dK [])) p o h=some (.dK []):=by
  intro o;rw[e_ Vg.symm,b_]
 refine k _ (fun b=>b=m∨b=n∨b=h) ⟨⟨dx,m,n,h,fun _=>0,[],[],[]⟩,Eq.trans b_ (aa4 (fun l=>some (HO.ins A.gq dx l)) (Pk m n h)),e1,e2,e3,Vf,XT,XS,.inl rfl,.inr (.inl rfl),.inr (.inr rfl),rfl,(fun p hp=>by cases hp),rfl,(fun p hp=>by cases hp),rfl,(fun p hp=>by cases hp),(fun p hp=>by cases hp),fun b hb=>?_⟩ (fun b hb=>?_) fun b o e hb=>?_
 ·rcases hb with rfl|rfl|rfl
  ·exact⟨_,e1⟩
  ·exact⟨_,e2⟩
  ·exact⟨_,e3⟩
 ·rcases hb with rfl|rfl|rfl
  ·exact hm
  ·exact hH
  ·exact hhH
 ·rw[e_ hb,e_ (gj e hhH),e_ hb,e_ (gj e hH),e_ hb,e_ (gj e hm)]
  exact e
def MC(XB:Addr):Sp:=fun vs H Q E=>∃x:Str,vs=[.str x]∧kI x∧(Good x→Q .jo H)∧(¬Good x→E (.ref XB) none H)
theorem ND:(12:Int).natAbs.log2<1920:=by decide
theorem ud(T:Txt mg)(O:Ok K mg A):ip P w K mg base (tL P w) 1 A.vG A.vH ["name"] (MC A.jA):=by
 refine O.uF.f.rm tP fun js A0 outer s H vs Q E hr h=>?_
 obtain⟨x,rfl,⟨hf,hl⟩,q,qe⟩:=h
 refine⟨_,(de (iy (ll (D5 Ji Ji f_ (gF u9 (by rfl) T.jH aay (a_ (pv 0) d_)) (Co (v:=.int 12) (by rfl) O.sC ⟨_,rfl⟩))) (fT (j9 bx O.BY (by rfl) (lK (ix i_ (ix (JM (Co (v:=.int 12) (by rfl) O.sC ⟨_,rfl⟩)) (ix i_ (ix (mX (pv 0)) nX))))))) hX)
   (fT (iH JE rfl (OR (pv 0)) (tM 1 tP) (fT (iy (ik Cp (pv 1) (Co (v:=.str (Str.ofString "abcdefghijklmnopqrstuvwxyz0123456789")) (by rfl) O.CY ⟨_,rfl⟩) rfl) (fT (j9 bx O.BY (by rfl) (lK (ix i_ (ix (mX (pv 0)) nX))))) hX))))),?_⟩
 refine JC ?_;intro _
 have hz:x.length≤sizeLine:=aac hl (by decide)
 have bad:¬Good x→∀H',H'=H→E (.ref A.jA) none H':=fun g H' e=>by subst e;exact qe g
 refine⟨_,rfl,_,rfl,hz,_,_,rfl,rfl,_,rfl,?_⟩
 refine lE (fun h1=>?_) (fun h1=>?_)
 ·refine⟨_,_,rfl,rfl,_,rfl,?_⟩
  refine lE (fun h2=>?_) (fun h2=>?_)
  ·
   have h2:¬((x.length:Int)≤12):=by simpa using h2
   refine⟨_,rfl,by decide+kernel,⟨_,rfl,ND,_,rfl,by decide+kernel,⟨_,rfl,by decide+kernel,⟨_,rfl,_,rfl,hf,_,rfl,hf,fun _=>qe fun g=>?_⟩⟩⟩⟩
   have:=g.2.1;omega
  ·have h1:(1:Int)≤(x.length:Int):=by simpa using h1
   have h2:(x.length:Int)≤12:=by simpa using h2
   refine⟨_,rfl,x,rfl,JL (fun i σ H2=>∃v,σ=[rs x,v]∧H2=H∧∀j<i,∀c,x.cps[j]?=some c→c∈me.cps.toList) ⟨none,rfl,rfl,fun j hj=>absurd hj (by omega)⟩ ?_ ?_⟩
   ·rintro i c σ H2 hc ⟨v,rfl,rfl,hp⟩
    refine⟨_,rfl,_,_,rfl,rfl,_,rfl,?_⟩
    rw[Ma]
    refine lE (fun h3=>?_) (fun h3=>?_)
    ·have h3:c∉me.cps.toList:=by simpa[me] using h3
     refine⟨_,rfl,by decide+kernel,⟨_,rfl,_,rfl,hf,_,rfl,hf,fun _=>qe fun g=>?_⟩⟩
     exact h3 (g.2.2 c (V_ (i:=i) (by rw[aa9];exact hc)))
    ·have h3:c∈me.cps.toList:=by simpa[me] using h3
     refine⟨_,rfl,rfl,fun j hj c' Cf=>?_⟩
     by_cases e:j=i
     ·subst e;rw[hc] at Cf;cases Cf;exact h3
     ·exact hp j (by omega) c' Cf
   ·rintro σ H2 ⟨v,rfl,rfl,hp⟩
    refine q ⟨by omega,by omega,fun c hc=>?_⟩
    obtain⟨j,hj,e⟩:=List.mem_iff_getElem.mp hc
    have hj':j<x.cps.size:=by simpa using hj
    exact hp j hj' c (by rw[aaV hj'];simpa using e)
 ·have h1:¬((1:Int)≤(x.length:Int)):=by simpa using h1
  refine⟨_,rfl,?_⟩
  refine⟨_,rfl,by decide+kernel,⟨_,rfl,ND,_,rfl,by decide+kernel,⟨_,rfl,by decide+kernel,⟨_,rfl,_,rfl,hf,_,rfl,hf,fun _=>qe fun g=>?_⟩⟩⟩⟩
  have:=g.1;omega
def MD(A:Ad):Sp:=fun vs H Q E=>∃(d:Addr)(D:Dk)(W:Addr→Prop)(s:Str),vs=[.ref d,.str s]∧ia A H d D W∧kI s∧(s∈D.stores→Q .jo H)∧(s∉D.stores→E (.ref A.iU) none H)
theorem jW(T:Txt mg)(O:Ok K mg A):ip P w K mg base (tL P w) 1 A.ou A.ow ["self","store"] (MD A):=by
 refine O.iV.f.rm tH fun js A0 outer s H vs Q E hr h=>?_
 obtain⟨d,D,W,st,rfl,⟨π,x⟩,hf,q,qe⟩:=h
 refine⟨_,(fT (iy (jt (lu (by exact iY hr) (pv 1) (gE (pv 0) rfl))) (fT (j9 bx O.Ig (by rfl) (lK (ix i_ (ix (mX (pv 1)) nX))))) hX)),?_⟩
 refine⟨_,rfl,_,rfl,d,A.gq,π.dx,_,_,rfl,x.hd,O.gC,O.iB,k8 _ _ _,π.h,_,rfl,ja.k (k:=sk st) x.hh,_,rfl,?_⟩
 rw[kq x.kh]
 by_cases hs:st∈D.stores
 ·rw[ZF hs]
  exact q hs
 ·rw[aaf hs]
  exact l7 ⟨_,rfl,by decide+kernel,⟨_,rfl,_,rfl,hf.1,_,rfl,hf.1,fun _=>qe hs⟩⟩
def Pm(A:Ad):Sp:=fun vs H Q E=>∃(d:Addr)(D:Dk)(W:Addr→Prop)(s:Str),vs=[.ref d,.str s]∧ia A H d D W∧kI s∧(s∈D.names→Q .jo H)∧(s∉D.names→E (.ref A.jV) none H)
theorem Bm(T:Txt mg)(O:Ok K mg A):ip P w K mg base (tL P w) 1 A.o3 A.o4 ["self","patch"] (Pm A):=by
 refine O.q_.f.rm ux fun js A0 outer s H vs Q E hr h=>?_
 obtain⟨d,D,W,st,rfl,⟨π,x⟩,hf,q,qe⟩:=h
 refine⟨_,(fT (iy (jt (lu (by exact iY hr) (pv 1) (gE (pv 0) rfl))) (fT (j9 bx O.BZ (by rfl) (lK (ix i_ (ix (mX (pv 1)) nX))))) hX)),?_⟩
 refine⟨_,rfl,_,rfl,d,A.gq,π.dx,_,_,rfl,x.hd,O.gC,O.i6,qd _ _ _,π.m,_,rfl,ja.k (k:=sk st) x.hm,_,rfl,?_⟩
 rw[kq x.km]
 by_cases hs:st∈D.names
 ·rw[ZF hs]
  exact q hs
 ·rw[aaf hs]
  exact l7 ⟨_,rfl,by decide+kernel,⟨_,rfl,_,rfl,hf.1,_,rfl,hf.1,fun _=>qe hs⟩⟩
def Pn(A:Ad):Sp:=fun vs H Q E=>∃(d:Addr)(D:Dk)(W:Addr→Prop)(s x:Str),vs=[.ref d,.str s,.str x]∧ia A H d D W∧kI s∧kI x∧s∈D.stores∧(x∈D.held s→Q .jo H)∧(x∉D.held s→E (.ref A.jV) none H)
theorem pC(T:Txt mg)(O:Ok K mg A):ip P w K mg base (tL P w) 1 A.o5 A.o6 ["self","store","patch"] (Pn A):=by
 refine O.lj.f.rm uy fun js A0 outer s H vs Q E hr h=>?_
 obtain⟨d,D,W,st,y,rfl,⟨π,x⟩,hf,GD,hs,q,qe⟩:=h
 obtain⟨v1,_,_,_,_,kv,v2,v3⟩:=x.vh st hs
 refine⟨_,(fT (iy (jt (lu (by exact iY hr) (pv 2) (zI hr (gE (pv 0) rfl) (pv 1)))) (fT (j9 bx O.BZ (by rfl) (lK (ix i_ (ix (mX (pv 1)) (ix i_ (ix (mX (pv 2)) nX))))))) hX)),?_⟩
 refine⟨_,rfl,_,rfl,d,A.gq,π.dx,_,_,rfl,x.hd,O.gC,O.iB,k8 _ _ _,_,rfl,π.h,.ref (π.ha st),rfl,?_,π.ha st,_,rfl,ja.k (k:=sk y) v2,_,rfl,?_⟩
 ·have:=ja.k (k:=sk st) x.hh
  rw[v1] at this
  exact this
 ·rw[kq v3]
  by_cases hy:y∈D.held st
  ·rw[ZF hy]
   exact q hy
  ·rw[aaf hy]
   refine l7 ?_
   exact⟨_,rfl,by decide+kernel,⟨_,rfl,_,rfl,hf.1,_,rfl,hf.1,⟨_,rfl,by decide+kernel,⟨_,rfl,_,rfl,GD.1,_,rfl,GD.1,fun _=>qe hy⟩⟩⟩⟩
def Kz(H:Hp)(v:V)(l:Ln):Prop:=∃t,v=.ref t∧H t=some (.tup [.str l.nm.1,.int l.nm.2,.str l.tx])
def As(H:Hp)(a:Addr)(row:List Ln):Prop:=∃vs,H a=some (.lst vs)∧Paired (Kz H) vs row
theorem Kz.same{H H':Hp}{v:V}{l:Ln}(x:Kz H v l)(s:gm H H'):Kz H' v l:=by obtain⟨t,e,h⟩:=x;exact⟨t,e,s _ _ h⟩
theorem As.same{H H':Hp}{a:Addr}{row:List Ln}(x:As H a row)(s:gm H H'):As H' a row:=by
 obtain⟨vs,h,p⟩:=x
 exact⟨vs,s _ _ h,Paired.jZ p fun _ _ z=>z.same s⟩
def Sq(A:Ad):Sp:=fun vs H Q E=>∃(d:Addr)(D:Dk)(W:Addr→Prop)(s:Str),vs=[.ref d,.str s]∧ia A H d D W∧kI s∧wy D.made.length∧(s∉D.stores→E (.ref A.iU) none H)∧(s∈D.stores→∀p,H p=none→Q (.ref p) (upd H p (.lst (gp (D.has s)))))
theorem Gk(T:Txt mg)(O:Ok K mg A):ip P w K mg base (tL P w) 2 A.z_ A.Aa ["self","store"] (Sq A):=by
 have ig:=@jW P w K mg base A T O
 refine O.lX.f.rm xP fun js A0 outer s H vs Q E hr h=>?_
 obtain⟨d,D,W,st,rfl,X,hf,j0,qe,q⟩:=h
 obtain⟨π,x⟩:=id X
 have yT:D.made.length≤4000:=j0
 have sz:sizeLine=16777216:=aaB
 refine⟨_,(de (g_ (A5 bx (pv 0) O.gC O.iV ig hr (a_ (pv 1) d_)))
   (fT (h_ (GX (zy zT (gc qx).names [2] rfl (CC (gE (pv 0) rfl)) rfl (by decide+kernel) (fun _ _ _ _=>(iF (i:=2) xP.nd rfl (Or.inl rfl))) (fun _ _ _ _=>⟨_,qi (jt (ph (by exact iY hr) (pv 2) (zI hr (gE (pv 0) rfl) (pv 1)))),by(try simp only [lJ]);rfl⟩) (fun _ _ _ _=>A6 (pv 2))))))),?_⟩
 refine JC ?_;intro _
 refine⟨_,rfl,d,π.dx,_,rfl,x.hd,jx,_,rfl,d,D,W,st,rfl,X,hf,fun hs=>?_,fun hs=>qe hs⟩
 obtain⟨v1,_,oy,_,_,kv,v2,v3⟩:=x.vh st hs
 refine⟨_,rfl,d,A.gq,π.dx,_,_,rfl,x.hd,O.gC,O.i6,qd _ _ _,π.m,π.kM,rfl,x.hm,fun o uz=>?_⟩
 have IY:=ko x.km
 have Qm:D.names.length=D.made.length:=by unfold Dk.names;rw[Tj]
 have Q_:d≠π.m:=iX x.hd x.hm (fun z=>by cases z)
 have f:∀{b u},H b=some u→b≠π.m→upd H π.m (.nA o (.dK π.kM)) b=some u:=fun{b u} e n=>by rw[e_ n];exact e
 refine GY (by omega) (fun i ys σ H3=>∃(v2:Option V)(zs:List Str),σ=[rr d,rs st,v2]∧H3=upd H π.m (.nA o (.dK π.kM))∧ys=gp zs∧zs=(D.names.take i).filter fun x=>x∈D.held st) ⟨none,[],rfl,rfl,rfl,rfl⟩ (fun i ys σ H3 ⟨_,zs,_,e,e2,e3⟩=>?_) ?_ ?_
 ·rw[e,e2,e3]
  refine⟨b_,?_⟩
  rw[Tj]
  exact aac (aaN _ _) (by rw[aaD];omega)
 ·rintro i k v ys σ H3 hi ⟨v0,zs,rfl,rfl,rfl,e3⟩
  obtain⟨y,hy,rfl⟩:=xj x.km hi
  refine⟨_,rfl,_,rfl,d,A.gq,π.dx,_,_,rfl,f x.hd Q_,O.gC,O.iB,k8 _ _ _,_,rfl,π.h,.ref (π.ha st),rfl,?_,π.ha st,_,rfl,ja.k (k:=sk y) (f v2 oy),_,rfl,?_⟩
  ·have:=ja.k (k:=sk st) (f x.hh x.mh.symm)
   rw[v1] at this
   exact this
  ·rw[kq v3,take_snoc hy,aaF]
   by_cases hm:y∈D.held st
   ·rw[ZF hm]
    refine l7 ⟨_,rfl,_,_,rfl,rfl,jg _ _,?_⟩
    rw[e3,aab (by simpa using hm),aaX]
   ·rw[aaf hm]
    refine jz ⟨_,_,rfl,rfl,rfl,?_⟩
    rw[e3,aaj (by simpa using hm),aaX,aaa]
 ·rintro ys σ H3 ⟨v0,zs,rfl,rfl,rfl,e3⟩ p tE
  rw[IY,aas] at e3
  have GB:p≠π.m:=fun z=>by rw[z,b_] at tE;cases tE
  have Gy:H p=none:=by rw[e_ GB] at tE;exact tE
  refine⟨π.m,o,_,by rw[e_ GB.symm];exact b_,uz,?_⟩
  rw[CB x.hm GB]
  have:=q hs p Gy
  unfold Dk.has at this
  rw[←e3] at this
  exact this
def Sr(A:Ad):Sp:=fun vs H Q E=>∃(d:Addr)(D:Dk)(W:Addr→Prop)(s:Str),vs=[.ref d,.str s]∧ia A H d D W∧kI s∧wy D.made.length∧(s∉D.stores→E (.ref A.iU) none H)∧(s∈D.stores→∀p H',gm H H'→H p=none→yQ A H' p (D.iz s)→Q (.ref p) H')
theorem Bn(T:Txt mg)(O:Ok K mg A):ip P w K mg base (tL P w) 3 A.oY A.oZ ["self","store"] (Sr A):=by
 have jP:=@Gk P w K mg base A T O
 refine O.q9.f.rm oj fun js A0 outer s H vs Q E hr h=>?_
 obtain⟨d,D,W,st,rfl,X,hf,j0,qe,q⟩:=h
 obtain⟨π,x⟩:=id X
 have yT:D.made.length≤4000:=j0
 have sz:sizeLine=16777216:=aaB
 have qg:(D.iz st).length≤D.made.length:=aaN _ _
 refine⟨_,(fT (h_ (xK oW (gc ky).names [2] rfl (iq (A5 bx (pv 0) O.gC O.lX jP hr (a_ (pv 1) d_))) rfl (by decide+kernel) (fun _ _ _ _=>(iF (i:=2) oj.nd rfl (Or.inl rfl))) (fun _ _ _ _=>mj) (fun _ _ _ _=>A6 (zI hr (gE (pv 0) rfl) (pv 2)))))),?_⟩
 refine⟨_,rfl,d,π.dx,_,rfl,x.hd,sL,_,rfl,d,D,W,st,rfl,X,hf,j0,fun hs=>qe hs,fun hs p tE=>?_⟩
 rw[Dk.G2]
 have s1:gm H (upd H p (.lst (gp ((D.iz st).map (·.nm))))):=(gm.refl H).new tE
 have Le:(upd H p (.lst (gp ((D.iz st).map (·.nm))))) p=some (.lst (gp ((D.iz st).map (·.nm)))):=b_
 generalize upd H p (.lst (gp ((D.iz st).map (·.nm))))=H1 at s1 Le
 let Jv:=fun(i:Nat) (ys:List V) (σ:St) (H3:Hp)=>∃(v2:Option V)(as:List Addr),σ=[rr d,rs st,v2]∧H3=H1∧ys=as.map V.ref∧Paired (oE A H) as ((D.iz st).take i)
 refine⟨p,rfl,⟨_,hE.of Le⟩,kx (K:=K) (a:=p) (xs:=gp ((D.iz st).map (·.nm))) (by rw[Tj,Tj];omega) Jv
  ⟨none,[],rfl,rfl,rfl,.nil⟩ (fun i ys σ H3 _ ⟨_,as,_,e,e2,e3⟩=>?_) ?_ ?_⟩
 ·rw[e,e2]
  have:=aaq e3
  rw[aaD] at this
  exact⟨hE.of Le,by rw[Tj];omega⟩
 ·rintro i v ys σ H3 hx ⟨v2,as,rfl,rfl,rfl,e3⟩
  obtain⟨y,hy,rfl⟩:=lb hx
  rw[aam] at hy
  obtain⟨pt,LH,rfl⟩:=Option.map_eq_some_iff.mp hy
  have xp:pt∈D.made:=(Inv.kQ.mp (V_ LH)).1
  obtain⟨a,z1,z2⟩:=x.vm pt xp
  refine⟨_,rfl,d,A.gq,π.dx,_,_,rfl,s1 _ _ x.hd,O.gC,O.i6,qd _ _ _,_,rfl,π.m,.ref a,rfl,?_,?_⟩
  ·have:=ja.k (k:=sk pt.nm) (s1 _ _ x.hm)
   rw[z1] at this
   exact this
  ·refine⟨_,as++[a],rfl,rfl,by rw[aar];rfl,?_⟩
   rw[take_snoc LH]
   exact iC e3 z2
 ·rintro ys σ H3 ⟨v2,as,rfl,rfl,rfl,e3⟩ r sS
  have e0:(gp ((D.iz st).map (·.nm))).length=(D.iz st).length:=by rw[Tj,Tj]
  rw[e0,aas] at e3
  have s2:=s1.new (o:=.lst (as.map V.ref)) sS
  exact q hs r _ s2 (s1.free sS) ⟨as,b_,Paired.jZ e3 fun _ _ z=>z.same s2⟩
def ME(A:Ad):Sp:=fun vs H Q E=>∃(d:Addr)(D:Dk)(W:Addr→Prop)(s f:Str),vs=[.ref d,.str s,.str f]∧ia A H d D W∧kI s∧Small D.made∧Inv D∧(s∉D.stores→E (.ref A.iU) none H)∧(s∈D.stores→∀p H',gm H H'→H p=none→Gh A H' p (gg (D.iz s) f) (D.row s f)→Q (.ref p) H')
theorem pb(T:Txt mg)(O:Ok K mg A):ip P w K mg base (tL P w) 5 A.qX A.qY ["self","store","file"] (ME A):=by
 have xv:=@Bh P w K mg base A T O
 have wo:=@Bn P w K mg base A T O
 refine O.k7.f.rm w_ fun js A0 outer s H vs Q E hr h=>?_
 obtain⟨d,D,W,st,f,rfl,X,hf,sm,I,qe,q⟩:=h
 obtain⟨π,x⟩:=id X
 refine⟨_,(fT (h_ (u0 O.Mo xv (hr.mono (by decide)) (by rfl) O.Mp O.su.b .nil pM (a_ (A5 bx (pv 0) O.gC O.q9 wo hr (a_ (pv 1) d_)) (a_ (pv 2) d_))))),?_⟩
 refine⟨_,rfl,d,π.dx,_,rfl,x.hd,Bl,_,rfl,d,D,W,st,rfl,X,hf,sm.many,fun hs=>qe hs,fun hs a H1 s1 ha0 Vh=>?_⟩
 refine⟨_,rfl,?_⟩
 intro p px np XU nxp
 have s2:gm H1 (upd (upd H1 px (.own p)) p (.ins A.ie px [])):=fun b o e=>by
  rw[e_ (gj e np),e_ (gj e XU)]
  exact e
 refine⟨p,px,a,D.iz st,f,rfl,b_,Vh.same s2,sm.sub (Inv.y7 st),I.nodup st f,I.closed hs f,I.R3 st f,fun H' k sg=>⟨rfl,?_⟩⟩
 exact q hs p H' (fun b o e=>k b o (s2 b o (s1 b o e)) (gj (s1 b o e) np)) (s1.free np) sg
theorem KA{D:Dk}(I:Inv D)(s f:Str):∀l∈D.row s f,l.nm∈(gg (D.iz s) f).map (·.nm):=fun l hl=>Wc ((j4 _ f).subset ((I.rJ s f).subset hl))
def Po(A:Ad):Sp:=fun vs H Q E=>∃(d:Addr)(D:Dk)(W:Addr→Prop)(s f:Str),vs=[.ref d,.str s,.str f]∧ia A H d D W∧kI s∧Small D.made∧Inv D∧(s∉D.stores→E (.ref A.iU) none H)∧(s∈D.stores→∀p H',gm H H'→H p=none→As H' p (D.row s f)→Q (.ref p) H')
theorem Gm(T:Txt mg)(O:Ok K mg A):ip P w K mg base (tL P w) 6 A.Ae A.Af ["self","store","file"] (Po A):=by
 have ji:=@pb P w K mg base A T O
 refine O.vQ.f.rm xR fun js A0 outer s H vs Q E hr h=>?_
 obtain⟨d,D,W,st,f,rfl,X,hf,sm,I,qe,q⟩:=h
 obtain⟨π,x⟩:=id X
 have sz:sizeLine=16777216:=aaB
 have Fb:(D.row st f).length≤4000:=aac (I.vj st f) sm.ir
 refine⟨_,(fT (h_ (xK zV (gc qz).names [3] rfl (iq (gE (A5 bx (pv 0) O.gC O.k7 ji hr (a_ (pv 1) (a_ (pv 2) d_))) rfl)) rfl (by decide+kernel) (fun _ _ _ _=>(iF (i:=3) xR.nd rfl (Or.inl rfl))) (fun _ _ _ _=>mj) (fun _ _ _ _=>A6 (Cq (a_ (jS nU (gE (pv 3) rfl) f_ (fun _ _=>rfl)) (a_ (jS nU (gE (pv 3) rfl) f_ (fun _ _=>rfl)) (a_ (gE (pv 3) rfl) d_)))))))),?_⟩
 refine⟨_,rfl,d,π.dx,_,rfl,x.hd,o_,_,rfl,_,rfl,d,D,W,st,f,rfl,X,hf,sm,I,fun hs=>qe hs,fun hs p H1 s1 tE ⟨px,ah,l,g1,g2,⟨as,g3,g4⟩⟩=>?_⟩
 have hlen:=aaq g4
 let Jv:=fun(i:Nat) (ys:List V) (σ:St) (H4:Hp)=>∃(v3:Option V),σ=[rr d,rs st,rs f,v3]∧gm H1 H4∧Paired (Kz H4) ys ((D.row st f).take i)
 refine⟨p,A.ie,px,_,_,rfl,g1,O.j6,O.iu,lC ah l,l,rfl,⟨_,hE.of g3⟩,kx (K:=K) (a:=l) (xs:=as.map V.ref) (by rw[Tj];omega) Jv
  ⟨none,rfl,gm.refl _,.nil⟩ (by rintro _ _ _ _ _ ⟨_,_,e,e2⟩;exact⟨hE.of (e _ _ g3),by rw[aaq e2,aaD];omega⟩) ?_ ?_⟩
 ·rintro i v ys σ H4 hx ⟨v3,rfl,s4,e2⟩
  obtain⟨b,hb,rfl⟩:=j7 hx
  obtain⟨ln,uJ,Q8,vn,vu,vl,k1,⟨nt,rfl,k2⟩,k3,k4⟩:=iw g4 hb
  refine⟨_,rfl,b,A.hU,Q8,_,_,rfl,s4 _ _ k1,O.iQ,O.hG,i7,nt,_,_,_,rfl,rfl,rn.of (s4 _ _ k2),gH (j:=0) rfl rfl,?_⟩
  refine⟨_,rfl,b,A.hU,Q8,_,_,rfl,s4 _ _ k1,O.iQ,O.hG,i7,nt,_,_,_,rfl,rfl,rn.of (s4 _ _ k2),gH (j:=1) rfl rfl,?_⟩
  refine⟨_,rfl,b,A.hU,Q8,_,_,rfl,s4 _ _ k1,O.iQ,O.jK,Al,L2.j0,fun t ht=>?_⟩
  have s5:=(gm.refl H4).new (o:=.tup [.str ln.nm.1,.int ln.nm.2,.str ln.tx]) ht
  refine⟨_,rfl,s4.trans s5,?_⟩
  rw[take_snoc uJ]
  exact iC (Paired.jZ e2 fun _ _ z=>z.same s5) ⟨t,rfl,b_⟩
 ·rintro ys σ H4 ⟨v3,rfl,s4,e2⟩ r sS
  rw[Tj,hlen,aas] at e2
  have s5:=(s1.trans s4).new (o:=.lst ys) sS
  exact q hs r _ s5 ((s1.trans s4).free sS) ⟨ys,b_,Paired.jZ e2 fun _ _ z=>z.same ((gm.refl H4).new sS)⟩
def Ss(A:Ad):Sp:=fun vs H Q E=>∃(d:Addr)(D:Dk)(W:Addr→Prop)(s f:Str),vs=[.ref d,.str s,.str f]∧ia A H d D W∧kI s∧Small D.made∧Inv D∧(s∉D.stores→E (.ref A.iU) none H)∧(s∈D.stores→∀p H' vs,gm H H'→H p=none→H' p=some (.lst vs)→iG H' (D.uv s f) vs→Q (.ref p) H')
theorem sN(T:Txt mg)(O:Ok K mg A):ip P w K mg base (tL P w) 6 A.qV A.qW ["self","store","file"] (Ss A):=by
 have ji:=@pb P w K mg base A T O
 have kZ:=@sI P w K mg base A T O
 refine O.mG.f.rm w9 fun js A0 outer s H vs Q E hr h=>?_
 obtain⟨d,D,W,st,f,rfl,X,hf,sm,I,qe,q⟩:=h
 obtain⟨π,x⟩:=id X
 have Fb:(D.row st f).length≤4000:=aac (I.vj st f) sm.ir
 refine⟨_,(fT (h_ (D6 (A5 bx (pv 0) O.gC O.k7 ji hr (a_ (pv 1) (a_ (pv 2) d_))) O.j6 O.jJ.t kZ (hr.mono (by decide)) O.jJ.b .nil pM))),?_⟩
 refine⟨_,rfl,d,π.dx,_,rfl,x.hd,o_,_,rfl,_,rfl,d,D,W,st,f,rfl,X,hf,sm,I,fun hs=>qe hs,fun hs p H1 s1 tE sg=>?_⟩
 obtain⟨px,ah,l,g1,g2,g3⟩:=id sg
 refine⟨p,px,_,rfl,g1,Kt ah l,p,_,_,rfl,sg,KA I st f,Fb,fun r H2 vs s2 sS A2 Dt=>?_⟩
 exact q hs r H2 vs (s1.trans s2) (s1.free sS) A2 Dt
end
theorem sO{xs ys:List Str}(nd:xs.Nodup)(h:∀x∈xs,x∈ys):xs.length≤ys.length:=by
 have:=len_sub (xs:=xs.map fun k=>((k,0):Nm)) (ys:=ys.map fun k=>(k,0)) (List.pairwise_map.mpr (nd.imp fun h z=>h (aa4 Prod.fst z))) fun x hx=>by
  obtain⟨k,hk,rfl⟩:=List.mem_map.mp hx
  exact Wc (h k hk)
 rwa [Tj,Tj] at this
section
variable{A:Ad}{H:Hp}{x:Addr}{o:HO}{kv:List (Key×V)}
theorem mQ.dk{a:Addr}{l:Ln}(h:mQ A H a l)(hx:H x=some (.dK kv)):mQ A (L2.upd H x o) a l:=mQ.upd h hx (fun _ z=>by cases z) (fun _ _ _ z=>by cases z)
theorem oC.dk{a:Addr}{ls:List Ln}(h:oC A H a ls)(hx:H x=some (.dK kv)):oC A (L2.upd H x o) a ls:=by
 obtain⟨as,h1,h2⟩:=h
 exact⟨as,by rw[e_ (iX h1 hx (fun z=>by cases z))];exact h1,Paired.jZ h2 fun _ _ z=>z.dk hx⟩
theorem vR.dk{a:Addr}{ns:List Nm}(h:vR H a ns)(hx:H x=some (.dK kv)):vR (L2.upd H x o) a ns:=by
 obtain⟨vs,h1,h2⟩:=h
 exact⟨vs,by rw[e_ (iX h1 hx (fun z=>by cases z))];exact h1,Paired.jZ h2 fun _ _ z=>z.upd hx (fun _ z=>by cases z)⟩
theorem oE.dk{a:Addr}{p:Pt}(h:oE A H a p)(hx:H x=some (.dK kv)):oE A (L2.upd H x o) a p:=by
 obtain⟨dx,vf,pu,cu,vo,h0,h1,h2,h3,h4⟩:=h
 exact⟨dx,vf,pu,cu,vo,by rw[e_ (iX h0 hx (fun z=>by cases z))];exact h0,h1,h2.dk hx,h3.dk hx,h4⟩
end
noncomputable def EZ(l:List Str)(m:Str):List Str:=if m∈l then l else l++[m]
theorem E1{l:List Str}{m x:Str}:x∈EZ l m↔x∈l∨x=m:=by
 unfold EZ
 split
 ·rename_i h
  exact⟨.inl,fun z=>z.elim id fun z=>z▸h⟩
 ·simp
theorem G9{l:List Str}{m:Str}(h:l.Nodup):(EZ l m).Nodup:=by
 unfold EZ
 split
 ·exact h
 ·rename_i hm
  rw[aa0]
  exact⟨h,by simp,fun a ha b hb z=>hm (by rw[Tq.mp hb] at z;exact z▸ha)⟩
theorem B4{dk:List (Key×V)}{l:List Str}(h:dk.map (·.1)=l.map sk)(m:Str)(v:V):(putK dk (sk m) v).map (·.1)=(EZ l m).map sk:=by
 rw[qb,h]
 unfold EZ
 by_cases e:m∈l
 ·rw[aap (Ar.mpr e),aap e]
 ·rw[aak (fun z=>e (Ar.mp z)),aak e,aar];rfl
theorem B5:∀(more:List (Key×V))(dk:List (Key×V))(l r:List Str),dk.map (·.1)=l.map sk→more.map (·.1)=r.map sk→l.Nodup→∃l':List Str,(putAll dk more).map (·.1)=l'.map sk∧l'.Nodup∧∀m,m∈l'↔m∈l∨m∈r
 | [],dk,l,r,h1,h2,nd=>by
  have:r=[]:=by cases r with|nil=>rfl|cons _ _=>cases h2
  subst this
  exact⟨l,h1,nd,fun m=>by simp⟩
 | p::t,dk,l,r,h1,h2,nd=>by
  cases r with
  | nil=>cases h2
  | cons x r=>
   rw[aav,aav] at h2
   injection h2 with e1 e2
   rw[rG,e1]
   obtain⟨l',z1,z2,z3⟩:=B5 t (putK dk (sk x) p.2) (EZ l x) r (B4 h1 x _) e2 (G9 nd)
   refine⟨l',z1,z2,fun m=>?_⟩
   rw[z3 m,E1,W3,or_assoc]
theorem Gn{kvs:List (Key×V)}{l:List Str}{x:Str}(h:kvs.map (·.1)=l.map sk):(jT kvs (sk x)).map (·.1)=(l.filter fun y=>y≠x).map sk:=by
 induction kvs generalizing l with
 | nil=>
  cases l with
  | nil=>rfl
  | cons _ _=>cases h
 | cons p r ih=>
  cases l with
  | nil=>cases h
  | cons y t=>
   rw[aav,aav] at h
   injection h with e1 e2
   by_cases e:y=x
   ·rw[wF (by rw[e1,e]),ih e2,aaj (by simpa using e)]
   ·rw[wG (by rw[e1];exact fun z=>e (aci z)),aab (by simpa using e),aav,aav,ih e2,e1]
noncomputable def l9(D:Dk)(s:Str)(l:List Str):Dk:=⟨D.made,D.iN,D.stores,fun t=>if t=s then l else D.held t⟩
theorem NC.l9{A:Ad}{H:Hp}{d:Addr}{D:Dk}{W:Addr→Prop}{π:Dp}{s:Str}{l:List Str}{kv:List (Key×V)}(x:NC A H d D W π)(hs:s∈D.stores)(hk:kv.map (·.1)=l.map sk):NC A (upd H (π.ha s) (.dK kv)) d (PK.l9 D s l) W π:=by
 obtain⟨v1,v2,v3,v4,v5,XW,v6,v7⟩:=x.vh s hs
 exact{
  hd:=by rw[e_ (iX x.hd v6 (fun z=>by cases z))];exact x.hd
  hm:=by rw[e_ v3.symm];exact x.hm
  hn:=by rw[e_ v4.symm];exact x.hn
  hh:=by rw[e_ v5.symm];exact x.hh
  mn:=x.mn
  mh:=x.mh
  nh:=x.nh
  wm:=x.wm
  wn:=x.wn
  wh:=x.wh
  km:=x.km
  vm:=fun p hp=>by obtain⟨a,h1,h2⟩:=x.vm p hp;exact⟨a,h1,h2.dk v6⟩
  kn:=x.kn
  vn:=fun y hy=>by
   obtain⟨a,kv,l,h1,h2,h3,h4⟩:=x.vn y hy
   exact⟨a,kv,l,h1,h2,by rw[e_ (fun(z:a=π.ha s)=>h2 (by rw[z];exact v2))];exact h3,h4⟩
  kh:=x.kh
  vh:=fun t ht=>by
   obtain⟨h1,h2,h3,h4,h5,kv,h6,h7⟩:=x.vh t ht
   refine⟨h1,h2,h3,h4,h5,?_⟩
   show ∃kv:List (Key×V),_∧kv.map (·.1)=(if t=s then l else D.held t).map sk
   by_cases e:t=s
   ·subst e
    rw[aap rfl]
    exact⟨_,b_,hk⟩
   ·rw[aak e]
    exact⟨kv,by rw[e_ (fun z=>e (x.inj t ht s hs z))];exact h6,h7⟩
  inj:=x.inj
  dk:=fun b hb=>by
   by_cases e:b=π.ha s
   ·rw[e];exact⟨_,b_⟩
   ·obtain⟨kv,h⟩:=x.dk b hb;exact⟨kv,by rw[e_ e];exact h⟩}
section
variable{P:Program}{w:World}{K:Qqy}{mg:Qqx}{base:Heap}{A:Ad}
def MF(A:Ad):Sp:=fun vs H Q E=>∃(d:Addr)(D:Dk)(W:Addr→Prop)(s:Str),vs=[.ref d,.str s]∧ia A H d D W∧kI s∧D.stores.length<1000∧(¬Good s→E (.ref A.jA) none H)∧(Good s→s∈D.stores→E (.ref A.jr) none H)∧
 (Good s→s∉D.stores→∀H' W',ia A H' d (D.begin s) W'→lZ W H H'→(∀b,W' b→W b∨H b=none)→Q .jo H')
theorem KC(T:Txt mg)(O:Ok K mg A):ip P w K mg base (tL P w) 2 A.vI A.vJ ["self","store"] (MF A):=by
 have qK:=@ud P w K mg base A T O
 refine O.Ai.f.rm A8 fun js A0 outer s H vs Q E hr h=>?_
 obtain⟨d,D,W,st,rfl,X,hf,hlen,q1,q2,q3⟩:=h
 obtain⟨π,x⟩:=id X
 have sz:sizeLine=16777216:=aaB
 refine⟨_,(de (g_ (Wb bx O.uF qK hr (a_ (pv 1) d_)))
   (de (iy (jt (ph (by exact iY hr) (pv 1) (gE (pv 0) rfl))) (fT (j9 bx O.yy (by rfl) (lK (ix i_ (ix (mX (pv 1)) (ix i_ nX)))))) hX)
   (fT (jy (by exact iY hr) (gE (pv 0) rfl) (pv 1) nV rfl)))),?_⟩
 refine Fp ?_;intro _ _
 refine⟨_,rfl,st,rfl,hf,fun g=>?_,fun ng=>q1 ng⟩
 refine⟨_,rfl,_,rfl,d,A.gq,π.dx,_,_,rfl,x.hd,O.gC,O.iB,k8 _ _ _,π.h,_,rfl,ja.k (k:=sk st) x.hh,_,rfl,?_⟩
 rw[kq x.kh]
 by_cases hs:st∈D.stores
 ·rw[ZF hs]
  refine l7 ⟨_,rfl,by decide+kernel,⟨_,rfl,_,rfl,hf.1,_,rfl,hf.1,⟨_,rfl,by decide+kernel,fun _=>q2 g hs⟩⟩⟩
 ·rw[aaf hs]
  refine jz ?_
  intro p tE
  have fr:∀{b o},H b=some o→b≠p:=fun e=>gj e tE
  have TC:(upd H p (.dK [])) π.h=some (.dK π.kH):=by rw[e_ (fr x.hh)];exact x.hh
  have IY:=ko x.kh
  refine⟨_,rfl,d,A.gq,π.dx,_,_,rfl,by rw[e_ (fr x.hd)];exact x.hd,O.gC,O.iB,k8 _ _ _,_,rfl,π.h,_,rfl,nK.k (k:=sk st) TC (by omega),?_⟩
  have s1:gm H (upd H p (.dK [])):=(gm.refl H).new tE
  have up:∀{b o},H b=some o→b≠π.h→upd (upd H p (.dK [])) π.h (.dK (putK π.kH (sk st) (.ref p))) b=some o:=fun{b o} e n=>by rw[e_ n];exact s1 _ _ e
  have XX:p≠π.h:=(fr x.hh).symm
  refine q3 g hs _ (fun b=>W b∨b=p) ⟨⟨π.dx,π.m,π.n,π.h,fun t=>if t=st then p else π.ha t,π.kM,π.kN,putK π.kH (sk st) (.ref p)⟩,?_⟩ (fun b o e nw=>?_) (fun b hb=>?_)
  ·exact{
    hd:=up x.hd (iX x.hd x.hh (fun z=>by cases z))
    hm:=up x.hm x.mh
    hn:=up x.hn x.nh
    hh:=b_
    mn:=x.mn
    mh:=x.mh
    nh:=x.nh
    wm:=.inl x.wm
    wn:=.inl x.wn
    wh:=.inl x.wh
    km:=x.km
    vm:=fun q hq=>by obtain⟨a,h1,h2⟩:=x.vm q hq;exact⟨a,h1,(h2.same s1).dk TC⟩
    kn:=x.kn
    vn:=fun y hy=>by
     obtain⟨a,kv,l,h1,h2,h3,h4⟩:=x.vn y hy
     exact⟨a,kv,l,h1,fun z=>z.elim h2 (fr h3),up h3 (fun(z:a=π.h)=>h2 (by rw[z];exact x.wh)),h4⟩
    kh:=qc x.kh hs _
    vh:=fun t ht=>by
     show iR (putK π.kH (sk st) (.ref p)) (sk t)=some (.ref (if t=st then p else π.ha t))∧(W (if t=st then p else π.ha t)∨(if t=st then p else π.ha t)=p)∧(if t=st then p else π.ha t)≠π.m∧(if t=st then p else π.ha t)≠π.n∧(if t=st then p else π.ha t)≠π.h∧∃kv:List (Key×V),(upd (upd H p (.dK [])) π.h (.dK (putK π.kH (sk st) (.ref p)))) (if t=st then p else π.ha t)=some (.dK kv)∧kv.map (·.1)=(if t=st then[] else D.held t).map sk
     rw[j8]
     by_cases e:t=st
     ·subst e
      rw[aap rfl,aap rfl,aap rfl]
      exact⟨rfl,.inr rfl,(fr x.hm).symm,(fr x.hn).symm,XX,[],by rw[e_ XX];exact b_,rfl⟩
     ·have Ra:t∈D.stores:=(W9.mp ht).elim id fun z=>absurd (Tq.mp z) e
      rw[aak (fun z=>e (aci z)),aak e,aak e]
      obtain⟨h1,h2,h3,h4,h5,kv,h6,h7⟩:=x.vh t Ra
      exact⟨h1,.inl h2,h3,h4,h5,kv,up h6 h5,h7⟩
    inj:=fun t ht u hu e=>by
     have e:(if t=st then p else π.ha t)=(if u=st then p else π.ha u):=e
     by_cases e1:t=st
     ·by_cases e2:u=st
      ·rw[e1,e2]
      ·have XY:u∈D.stores:=(W9.mp hu).elim id fun z=>absurd (Tq.mp z) e2
       rw[aap e1,aak e2] at e
       obtain⟨_,_,_,_,_,kv,h6,_⟩:=x.vh u XY
       exact absurd e.symm (fr h6)
     ·have Ra:t∈D.stores:=(W9.mp ht).elim id fun z=>absurd (Tq.mp z) e1
      by_cases e2:u=st
      ·rw[aak e1,aap e2] at e
       obtain⟨_,_,_,_,_,kv,h6,_⟩:=x.vh t Ra
       exact absurd e (fr h6)
      ·have XY:u∈D.stores:=(W9.mp hu).elim id fun z=>absurd (Tq.mp z) e2
       rw[aak e1,aak e2] at e
       exact x.inj t Ra u XY e
    dk:=fun b hb=>by
     by_cases e:b=π.h
     ·rw[e];exact⟨_,b_⟩
     ·rcases hb with hb|hb
      ·obtain⟨kv,h⟩:=x.dk b hb;exact⟨kv,up h e⟩
      ·rw[hb];exact⟨[],by rw[e_ XX];exact b_⟩}
  ·exact up e (fun(z:b=π.h)=>nw (by rw[z];exact x.wh))
  ·rcases hb with hb|hb
   ·exact .inl hb
   ·rw[hb];exact .inr tE
def Su(A:Ad):Sp:=fun vs H Q E=>∃(d l:Addr)(D:Dk)(W:Addr→Prop)(x:Str)(fs:List Str),vs=[.ref d,.str x,.ref l]∧ia A H d D W∧H l=some (.lst (gp fs))∧fs.length≤1000∧(∀y∈x::fs,kI y)∧
 ((¬∀y∈x::fs,Good y)→∀H',gm H H'→E (.ref A.jA) none H')∧((∀y∈x::fs,Good y)→x∈D.names→∀H',gm H H'→E (.ref A.jr) none H')∧((∀y∈x::fs,Good y)→x∉D.names→∀H',gm H H'→Q .jo H')
theorem qH(T:Txt mg)(O:Ok K mg A):ip P w K mg base (tL P w) 2 A.p8 A.p9 ["self","patch","files"] (Su A):=by
 have qK:=@ud P w K mg base A T O
 refine O.lY.f.rm oX fun js A0 outer s H vs Q E hr h=>?_
 obtain⟨d,l,D,W,y,fs,rfl,X,hl,hfl,N4,q1,q2,q3⟩:=h
 obtain⟨π,x⟩:=id X
 have sz:sizeLine=16777216:=aaB
 refine⟨_,(de (iH JE rfl (iq (gs mW (iW (a_ (pv 1) d_)) (pv 2))) (tM 3 oX) (fT (g_ (Wb bx O.uF qK hr (a_ (pv 3) d_)))))
   (fT (iy (jt (ph (by exact iY hr) (pv 1) (gE (pv 0) rfl))) (fT (j9 bx O.yy (by rfl) (lK (ix i_ (ix (mX (pv 1)) (ix i_ nX)))))) hX))),?_⟩
 refine JC ?_;intro _
 refine⟨_,rfl,L2.j0,fun a ha=>?_⟩
 have s1:gm H (upd H a (.lst [V.str y])):=(gm.refl H).new ha
 refine⟨_,rfl,a,l,_,_,rfl,rfl,b_,s1 _ _ hl,by rw[Tj];show 1+_≤_;omega,fun b hb=>?_⟩
 have s2:=s1.new (o:=.lst ([V.str y]++gp fs)) hb
 have Lg:(upd (upd H a (.lst [V.str y])) b (.lst ([V.str y]++gp fs))) b=some (.lst (gp (y::fs))):=b_
 generalize upd (upd H a (.lst [V.str y])) b (.lst ([V.str y]++gp fs))=H2 at s2 Lg
 let Jv:=fun(i:Nat) (σ:St) (H3:Hp)=>∃v,σ=[rr d,rs y,rr l,v]∧H3=H2∧∀z∈(y::fs).take i,Good z
 refine⟨b,rfl,⟨_,hE.of Lg⟩,i0 (K:=K) (a:=b) (xs:=gp (y::fs)) Jv ⟨none,rfl,rfl,fun z hz=>by rw[abx] at hz;cases hz⟩ (by rintro _ _ _ _ ⟨_,_,e,_⟩;rw[e];exact hE.of Lg) ?_ ?_⟩
 ·rintro i v σ H3 hx ⟨v0,rfl,rfl,hg⟩
  obtain⟨z,hz,rfl⟩:=lb hx
  refine⟨_,rfl,z,rfl,N4 z (V_ hz),fun g=>?_,fun ng=>q1 (fun h=>ng (h z (V_ hz))) _ s2⟩
  refine⟨_,rfl,rfl,fun t ht=>?_⟩
  rw[take_snoc hz] at ht
  rcases W9.mp ht with ht|ht
  ·exact hg t ht
  ·rw[Tq.mp ht];exact g
 ·rintro σ H3 ⟨v0,rfl,rfl,hg⟩
  rw[Tj,aas] at hg
  refine⟨_,rfl,_,rfl,d,A.gq,π.dx,_,_,rfl,s2 _ _ x.hd,O.gC,O.i6,qd _ _ _,π.m,_,rfl,ja.k (k:=sk y) (s2 _ _ x.hm),_,rfl,?_⟩
  rw[kq x.km]
  have hf:=N4 y aat
  by_cases hm:y∈D.names
  ·rw[ZF hm]
   exact l7 ⟨_,rfl,by decide+kernel,⟨_,rfl,_,rfl,hf.1,_,rfl,hf.1,⟨_,rfl,by decide+kernel,fun _=>q2 hg hm _ s2⟩⟩⟩
  ·rw[aaf hm]
   exact q3 hg hm _ s2
def MG(A:Ad):Sp:=fun vs H Q E=>∃(d:Addr)(D:Dk)(W:Addr→Prop)(s:Str),vs=[.ref d,.str s]∧ia A H d D W∧kI s∧wy D.made.length∧(s∉D.names→E (.ref A.jV) none H)∧(s∈D.names→∀p,H p=none→Q (.ref p) (upd H p (.lst (gp (D.nB s)))))
theorem KD(T:Txt mg)(O:Ok K mg A):ip P w K mg base (tL P w) 2 A.vK A.vL ["self","patch"] (MG A):=by
 have wq:=@Bm P w K mg base A T O
 refine O.Ak.f.rm tR fun js A0 outer s H vs Q E hr h=>?_
 obtain⟨d,D,W,st,rfl,X,hf,j0,qe,q⟩:=h
 obtain⟨π,x⟩:=id X
 have yT:D.made.length≤4000:=j0
 have sz:sizeLine=16777216:=aaB
 refine⟨_,(de (g_ (A5 bx (pv 0) O.gC O.q_ wq hr (a_ (pv 1) d_)))
   (fT (h_ (GX (zy vz (gc nM).names [2] rfl (CC (gE (pv 0) rfl)) rfl (by decide+kernel) (fun _ _ _ _=>(iF (i:=2) tR.nd rfl (Or.inl rfl))) (fun _ _ _ _=>⟨_,qi (jt (ph (by exact iY hr) (pv 2) (zI hr (gE (pv 0) rfl) (pv 1)))),by(try simp only [lJ]);rfl⟩) (fun _ _ _ _=>A6 (pv 2))))))),?_⟩
 refine JC ?_;intro _
 refine⟨_,rfl,d,π.dx,_,rfl,x.hd,Bj,_,rfl,d,D,W,st,rfl,X,hf,fun hs=>?_,fun hs=>qe hs⟩
 obtain⟨a,kv,l,v1,hnw,v2,v3,_,v4⟩:=x.vn st hs
 have oy:a≠π.m:=fun z=>hnw (by rw[z];exact x.wm)
 refine⟨_,rfl,d,A.gq,π.dx,_,_,rfl,x.hd,O.gC,O.i6,qd _ _ _,π.m,π.kM,rfl,x.hm,fun o uz=>?_⟩
 have IY:=ko x.km
 have Qm:D.names.length=D.made.length:=by unfold Dk.names;rw[Tj]
 have Q_:d≠π.m:=iX x.hd x.hm (fun z=>by cases z)
 have f:∀{b u},H b=some u→b≠π.m→upd H π.m (.nA o (.dK π.kM)) b=some u:=fun{b u} e n=>by rw[e_ n];exact e
 refine GY (by omega) (fun i ys σ H3=>∃(v2:Option V)(zs:List Str),σ=[rr d,rs st,v2]∧H3=upd H π.m (.nA o (.dK π.kM))∧ys=gp zs∧zs=(D.names.take i).filter fun x=>x∈D.iN st) ⟨none,[],rfl,rfl,rfl,rfl⟩ (fun i ys σ H3 ⟨_,zs,_,e,e2,e3⟩=>?_) ?_ ?_
 ·rw[e,e2,e3]
  refine⟨b_,?_⟩
  rw[Tj]
  exact aac (aaN _ _) (by rw[aaD];omega)
 ·rintro i k v ys σ H3 hi ⟨v0,zs,rfl,rfl,rfl,e3⟩
  obtain⟨y,hy,rfl⟩:=xj x.km hi
  refine⟨_,rfl,_,rfl,d,A.gq,π.dx,_,_,rfl,f x.hd Q_,O.gC,O.jd,tm _ _ _,_,rfl,π.n,.ref a,rfl,?_,a,_,rfl,ja.k (k:=sk y) (f v2 oy),_,rfl,?_⟩
  ·have:=ja.k (k:=sk st) (f x.hn x.mn.symm)
   rw[v1] at this
   exact this
  ·rw[kq v3,take_snoc hy,aaF]
   by_cases hm:y∈D.iN st
   ·rw[ZF ((v4 y).mpr hm)]
    refine l7 ⟨_,rfl,_,_,rfl,rfl,jg _ _,?_⟩
    rw[e3,aab (by simpa using hm),aaX]
   ·rw[aaf (fun z=>hm ((v4 y).mp z))]
    refine jz ⟨_,_,rfl,rfl,rfl,?_⟩
    rw[e3,aaj (by simpa using hm),aaX,aaa]
 ·rintro ys σ H3 ⟨v0,zs,rfl,rfl,rfl,e3⟩ p tE
  rw[IY,aas] at e3
  have GB:p≠π.m:=fun z=>by rw[z,b_] at tE;cases tE
  have Gy:H p=none:=by rw[e_ GB] at tE;exact tE
  refine⟨π.m,o,_,by rw[e_ GB.symm];exact b_,uz,?_⟩
  rw[CB x.hm GB]
  have:=q hs p Gy
  unfold Dk.nB at this
  rw[←e3] at this
  exact this
def Pp(A:Ad):Sp:=fun vs H Q _=>∃(d a:Addr)(D:Dk)(W:Addr→Prop)(s:Str)(p:Pt),vs=[.ref d,.str s,.ref a]∧ia A H d D W∧Inv D∧wy D.made.length∧s∈D.stores∧oE A H a p∧p.nm∉D.names∧wy p.ir.length∧wy p.i3.length∧(∀y∈iJ p,y∈D.names)∧
 ∀H',ia A H' d (D.keep s p) W→lZ W H H'→Q .jo H'
theorem De(p:Pt):(iJ p).length≤p.i3.length+2*p.ir.length+1:=by
 unfold iJ
 rw[ZD,Tj]
 have h1:=aaN (fun n:Nm=>decide (n.1≠p.nm)) (named p)
 have h2:=B2 p
 have h3:p.other.toList.length≤1:=by cases p.other<;>simp
 omega
theorem Df(T:Txt mg)(O:Ok K mg A):ip P w K mg base mU 3 A.ye A.yf ["self","store","patch"] (Pp A):=by
 have tJ:=@sJ P w K mg base A T O
 refine O.s_.f.rl qC fun js A0 outer s H vs Q E hr h=>?_
 obtain⟨d,a,D,W,st,p,rfl,X,I,j0,hs,LH,fresh,Gz,Fe,lG,q⟩:=h
 obtain⟨π,x⟩:=id X
 have yT:D.made.length≤4000:=j0
 have N0:p.ir.length≤4000:=Gz
 have Ll:p.i3.length≤4000:=Fe
 have sz:sizeLine=16777216:=aaB
 have Qm:D.names.length=D.made.length:=by unfold Dk.names;rw[Tj]
 have UT:=De p
 refine⟨_,(de (lx 3 qC nV)
   (de (iH aaz rfl (iq (ml O.o9 tJ hr (a_ (pv 2) d_))) (tM 4 qC) (de (jy (by exact iY hr) (pv 3) (pv 4) kW rfl)
   (fT (g_ (JX (pv 3) (zI hr (gE (pv 0) rfl) (pv 4)) ⟨rfl,rfl,rfl,rfl⟩)))))
   (de (jy (by exact iY hr) (gE (pv 0) rfl) (gE (pv 2) rfl) (pv 3) rfl)
   (de (jy (by exact iY hr) (gE (pv 0) rfl) (gE (pv 2) rfl) (pv 2) rfl)
   (fT (jy (by exact iY hr) (zI hr (gE (pv 0) rfl) (pv 1)) (gE (pv 2) rfl) kW rfl)))))),?_⟩
 refine QM ?_;intro _ _ _ _
 intro nd P_
 have s1:gm H (upd H nd (.dK [])):=(gm.refl H).new P_
 have Qw:(upd H nd (.dK [])) nd=some (.dK []):=b_
 generalize upd H nd (.dK [])=H1 at s1 Qw
 refine⟨_,rfl,a,p,rfl,LH.same s1,Gz,Fe,fun r H2 s2 sS A2=>?_⟩
 have Fs:=s1.trans s2
 have hrn:r≠nd:=fun z=>by rw[z,Qw] at sS;cases sS
 have Vi:¬W nd:=X.jo P_
 let Jv:=fun(i:Nat) (σ:St) (H3:Hp)=>∃(v:Option V)(kv:List (Key×V))(l:List Str),σ=[rr d,rs st,rr a,rr nd,v]∧(∀b o,H2 b=some o→b≠nd→H3 b=some o)∧H3 nd=some (.dK kv)∧kv.map (·.1)=l.map sk∧l.Nodup∧∀y,y∈l↔∃z∈(iJ p).take i,y=z∨y∈D.iN z
 refine⟨r,rfl,⟨_,hE.of A2⟩,i0 (K:=K) (a:=r) (xs:=gp (iJ p)) Jv
  ⟨none,[],[],rfl,fun b o e _=>e,s2 _ _ Qw,rfl,aa6,fun y=>by simp⟩ (by rintro _ _ _ _ ⟨_,_,_,_,e,_⟩;exact hE.of (e _ _ A2 hrn)) ?_ ?_⟩
 ·rintro i v σ H3 hx ⟨v0,kv,l,rfl,e1,e2,e3,e4,e5⟩
  obtain⟨z,hz,rfl⟩:=lb hx
  have hzm:z∈iJ p:=V_ hz
  have T_:z∈D.names:=lG z hzm
  obtain⟨az,kz,lz,z1,z2,z3,z4,z5,z6⟩:=x.vn z T_
  have Bu:∀y∈l,y∈D.names:=fun y hy=>by
   obtain⟨t,ht,h⟩:=(e5 y).mp hy
   have htn:=lG t (List.mem_of_mem_take ht)
   rcases h with h|h
   ·rw[h];exact htn
   ·exact I.y8 htn h
  have Xq:=sO e4 Bu
  have hlz:=sO z5 fun y hy=>I.y8 T_ ((z6 y).mp hy)
  have IY:=ko e3
  have hkz:=ko z4
  have Z9:=jq kv (sk z) (V.bl true)
  have XZ:az≠nd:=fun e=>by rw[e,P_] at z3;cases z3
  refine⟨_,rfl,_,rfl,nd,_,rfl,nK.k (k:=sk z) e2 (by omega),?_⟩
  have up:∀{b o},H b=some o→upd H3 nd (.dK (putK kv (sk z) (V.bl true))) b=some o:=fun{b o} e=>by
   have n:b≠nd:=fun z=>by rw[z,P_] at e;cases e
   rw[e_ n];exact e1 _ _ (Fs _ _ e) n
  refine⟨_,rfl,nd,rfl,.inl ⟨_,.inl b_⟩,_,rfl,d,A.gq,π.dx,_,_,rfl,up x.hd,O.gC,O.jd,tm _ _ _,_,rfl,π.n,.ref az,rfl,?_,az,_,kz,rfl,b_,.inl (up z3),XZ.symm,by omega,?_⟩
  ·have:=ja.k (k:=sk z) (up x.hn)
   rw[z1] at this
   exact this
  ·obtain⟨l',w1,w2,w3⟩:=B5 kz _ (EZ l z) lz (B4 e3 z (V.bl true)) z4 (G9 e4)
   refine⟨_,_,l',rfl,fun b o e n=>by rw[e_ n,e_ n];exact e1 b o e n,b_,w1,w2,fun y=>?_⟩
   rw[w3 y,E1,e5 y,z6 y,take_snoc hz]
   constructor
   ·rintro((⟨t,ht,h⟩|h)|h)
    ·exact⟨t,aal _ ht,h⟩
    ·exact⟨z,by simp,.inl h⟩
    ·exact⟨z,by simp,.inr h⟩
   ·rintro⟨t,ht,h⟩
    rcases W9.mp ht with ht|ht
    ·exact .inl (.inl ⟨t,ht,h⟩)
    ·rw[Tq.mp ht] at h
     exact h.elim (fun h=>.inl (.inr h)) .inr
 ·rintro σ H3 ⟨v0,kv,l,rfl,e1,e2,e3,e4,e5⟩
  rw[Tj,aas] at e5
  have s3:gm H H3:=fun b o e=>e1 b o (Fs _ _ e) (fun z=>by rw[z,P_] at e;cases e)
  obtain⟨dx,vf,pu,cu,vo,g1,g2⟩:=LH.same s3
  have y:=x.same s3
  have hnM:=ko x.km
  have hnN:=ko x.kn
  obtain⟨v1,v2,v3,v4,v5,XW,v6,v7⟩:=y.vh st hs
  have hkv0:=ko v7
  have hhl:=sO (I.vd st hs) fun t ht=>(I.kF st hs t ht).1
  refine⟨_,rfl,_,rfl,d,A.gq,π.dx,_,_,rfl,y.hd,O.gC,O.jd,tm _ _ _,_,rfl,a,A.hV,dx,_,_,rfl,g1,O.jm,O.iZ,sD,π.n,_,rfl,nK.k (k:=sk p.nm) y.hn (by omega),?_⟩
  have f1:∀{b o},H3 b=some o→b≠π.n→upd H3 π.n (.dK (putK π.kN (sk p.nm) (.ref nd))) b=some o:=fun{b o} e n=>by rw[e_ n];exact e
  have LG:d≠π.n:=iX y.hd y.hn (fun z=>by cases z)
  have han:a≠π.n:=iX g1 y.hn (fun z=>by cases z)
  have Q_:d≠π.m:=iX y.hd y.hm (fun z=>by cases z)
  have ham:a≠π.m:=iX g1 y.hm (fun z=>by cases z)
  refine⟨_,rfl,_,rfl,d,A.gq,π.dx,_,_,rfl,f1 y.hd LG,O.gC,O.i6,qd _ _ _,_,rfl,a,A.hV,dx,_,_,rfl,f1 g1 han,O.jm,O.iZ,sD,π.m,_,rfl,nK.k (k:=sk p.nm) (f1 y.hm x.mn) (by omega),?_⟩
  have f2:∀{b o},H3 b=some o→b≠π.n→b≠π.m→upd (upd H3 π.n (.dK (putK π.kN (sk p.nm) (.ref nd)))) π.m (.dK (putK π.kM (sk p.nm) (.ref a))) b=some o:=fun{b o} e n m=>by rw[e_ m];exact f1 e n
  refine⟨_,rfl,d,A.gq,π.dx,_,_,rfl,f2 y.hd LG Q_,O.gC,O.iB,k8 _ _ _,_,rfl,π.h,.ref (π.ha st),rfl,?_,_,rfl,a,A.hV,dx,_,_,rfl,f2 g1 han ham,O.jm,O.iZ,sD,π.ha st,_,rfl,nK.k (k:=sk p.nm) (f2 v6 v4 v3) (by omega),?_⟩
  ·have:=ja.k (k:=sk st) (f2 y.hh x.nh.symm x.mh.symm)
   rw[v1] at this
   exact this
  ·have hpn:p.nm∉D.held st:=fun z=>fresh (I.kF st hs _ z).1
   have f3:∀{b o},H3 b=some o→b≠π.n→b≠π.m→b≠π.ha st→upd (upd (upd H3 π.n (.dK (putK π.kN (sk p.nm) (.ref nd)))) π.m (.dK (putK π.kM (sk p.nm) (.ref a)))) (π.ha st) (.dK (putK XW (sk p.nm) (V.bl true))) b=some o:=fun{b o} e n m h=>by rw[e_ h];exact f2 e n m
   have f4:∀{b q},oE A H3 b q→oE A (upd (upd (upd H3 π.n (.dK (putK π.kN (sk p.nm) (.ref nd)))) π.m (.dK (putK π.kM (sk p.nm) (.ref a)))) (π.ha st) (.dK (putK XW (sk p.nm) (V.bl true)))) b q:=fun z=>((z.dk y.hn).dk (f1 y.hm x.mn)).dk (f2 v6 v4 v3)
   have nW:∀{b},¬W b→b≠π.n∧b≠π.m∧b≠π.ha st:=fun{b} h=>⟨fun z=>h (by rw[z];exact x.wn),fun z=>h (by rw[z];exact x.wm),fun z=>h (by rw[z];exact v2)⟩
   refine q _ ⟨{π with kM:=putK π.kM (sk p.nm) (.ref a),kN:=putK π.kN (sk p.nm) (.ref nd)},?_⟩ fun b o e n=>f3 (s3 _ _ e) (nW n).1 (nW n).2.1 (nW n).2.2
   have GF:(D.keep st p).names=D.names++[p.nm]:=by
    show(D.made++[p]).map (·.nm)=_
    rw[aar];rfl
   exact{
    hd:=f3 y.hd LG Q_ (iX y.hd v6 (fun z=>by cases z))
    hm:=by
     show upd _ (π.ha st) _ π.m=_
     rw[e_ v3.symm];exact b_
    hn:=by
     show upd _ (π.ha st) _ π.n=_
     rw[e_ v4.symm,e_ x.mn.symm];exact b_
    hh:=f3 y.hh x.nh.symm x.mh.symm v5.symm
    mn:=x.mn
    mh:=x.mh
    nh:=x.nh
    wm:=x.wm
    wn:=x.wn
    wh:=x.wh
    km:=by rw[GF];exact qc x.km fresh _
    vm:=fun q hq=>by
     show ∃b,iR (putK π.kM (sk p.nm) (.ref a)) (sk q.nm)=some (.ref b)∧_
     rw[j8]
     rcases W9.mp hq with hq|hq
     ·obtain⟨b,w1,w2⟩:=y.vm q hq
      have oy:q.nm≠p.nm:=fun z=>fresh (by rw[←z];exact Wc hq)
      rw[aak (fun z=>oy (aci z))]
      exact⟨b,w1,f4 w2⟩
     ·rw[Tq.mp hq,aap rfl]
      exact⟨a,rfl,f4 (LH.same s3)⟩
    kn:=by rw[GF];exact qc x.kn fresh _
    vn:=fun t ht=>by
     rw[GF] at ht
     show ∃(b:Addr)(kv:List (Key×V))(l:List Str),iR (putK π.kN (sk p.nm) (.ref nd)) (sk t)=some (.ref b)∧¬W b∧_∧kv.map (·.1)=l.map sk∧l.Nodup∧∀u,u∈l↔u∈(if t=p.nm then oQ D.iN p else D.iN t)
     rw[j8]
     by_cases e:t=p.nm
     ·rw[aap (by rw[e]),aap e]
      refine⟨nd,kv,l,rfl,Vi,f3 e2 (nW Vi).1 (nW Vi).2.1 (nW Vi).2.2,e3,e4,fun u=>?_⟩
      rw[e5 u]
      unfold oQ
      rw[aa5]
      exact⟨fun⟨z,h1,h2⟩=>⟨z,h1,W3.mpr h2⟩,fun⟨z,h1,h2⟩=>⟨z,h1,W3.mp h2⟩⟩
     ·rw[aak (fun z=>e (aci z)),aak e]
      have Ra:t∈D.names:=(W9.mp ht).elim id fun z=>absurd (Tq.mp z) e
      obtain⟨b,X0,l',w1,w2,w3,w4⟩:=y.vn t Ra
      exact⟨b,X0,l',w1,w2,f3 w3 (nW w2).1 (nW w2).2.1 (nW w2).2.2,w4⟩
    kh:=x.kh
    vh:=fun t ht=>by
     obtain⟨h1,h2,h3,h4,h5,X0,h6,h7⟩:=y.vh t ht
     refine⟨h1,h2,h3,h4,h5,?_⟩
     show ∃kv:List (Key×V),_∧kv.map (·.1)=(if t=st then D.held st++[p.nm] else D.held t).map sk
     by_cases e:t=st
     ·subst e
      rw[aap rfl]
      exact⟨_,b_,qc v7 hpn _⟩
     ·rw[aak e]
      exact⟨X0,f3 h6 h4 h3 (fun z=>e (x.inj t ht st hs z)),h7⟩
    inj:=x.inj
    dk:=fun b hb=>by
     by_cases h1:b=π.ha st
     ·rw[h1];exact⟨_,b_⟩
     ·by_cases h2:b=π.m
      ·rw[h2,e_ v3.symm];exact⟨_,b_⟩
      ·by_cases h3:b=π.n
       ·rw[h3,e_ v4.symm,e_ x.mn.symm];exact⟨_,b_⟩
       ·obtain⟨kv,h⟩:=y.dk b hb
        exact⟨kv,f3 h h3 h2 h1⟩}
theorem B6(D:Dk)(s x:Str):D.take s x=l9 D s (D.held s++D.m_ s x):=rfl
theorem Ip(D:Dk)(s x:Str):D.drop s x=l9 D s ((D.held s).filter fun y=>y≠x):=rfl
theorem B7(D:Dk)(s:Str)(l l':List Str):l9 (l9 D s l) s l'=l9 D s l':=by
 unfold l9
 congr 1
 funext t
 show(if t=s then l' else(if t=s then l else D.held t))=_
 by_cases e:t=s
 ·rw[aap e,aap e]
 ·rw[aak e,aak e,aak e]
theorem xk(D:Dk)(s:Str):l9 D s (D.held s)=D:=by
 cases D
 unfold l9
 congr 1
 funext t
 show(if t=s then _ else _)=_
 by_cases e:t=s
 ·rw[aap e,e]
 ·rw[aak e]
def Pq(A:Ad):Sp:=fun vs H Q E=>∃(d:Addr)(D:Dk)(W:Addr→Prop)(s c x:Str),vs=[.ref d,.str s,.str c,.str x]∧ia A H d D W∧Inv D∧wy D.made.length∧kI s∧kI c∧kI x∧
 (s∉D.stores→E (.ref A.iU) none H)∧(s∈D.stores→c∉D.stores→E (.ref A.iU) none H)∧(s∈D.stores→c∈D.stores→x∉D.held c→E (.ref A.jV) none H)∧
 (s∈D.stores→c∈D.stores→x∈D.held c→∀p H1 H',gm H H1→H1 p=none→H' p=some (.lst (gp (D.m_ s x)))→ia A H' d (D.take s x) W→lZ W (upd H1 p (.lst (gp (D.m_ s x)))) H'→Q (.ref p) H')
theorem Gp{D:Dk}(I:Inv D){s x:Str}(hx:x∈D.names):(D.m_ s x).Nodup∧∀y∈D.m_ s x,y∈D.names∧y∉D.held s:=by
 refine⟨?_,fun y hy=>?_⟩
 ·refine ab7 aaS ?_
  rw[aa0]
  refine⟨ab7 aaS I.nd,by simp,fun a ha b hb z=>?_⟩
  rw[Tq.mp hb] at z
  subst z
  exact I.BP hx (aaA (ZH.mp ha).2)
 ·obtain⟨h1,h2⟩:=ZH.mp hy
  refine⟨?_,aaA h2⟩
  rcases W9.mp h1 with h|h
  ·exact(ZH.mp h).1
  ·rw[Tq.mp h];exact hx
theorem G_(T:Txt mg)(O:Ok K mg A):ip P w K mg base (tL P w) 3 A.ya A.yb ["self","store","source","patch"] (Pq A):=by
 have ig:=@jW P w K mg base A T O
 have jL:=@pC P w K mg base A T O
 have Du:=@KD P w K mg base A T O
 refine O.sZ.f.rm lR fun js A0 outer s H vs Q E hr h=>?_
 obtain⟨d,D,W,st,c,y,rfl,X,I,j0,hf,hfc,GD,q1,q2,q3,q4⟩:=h
 obtain⟨π,x⟩:=id X
 have yT:D.made.length≤4000:=j0
 have sz:sizeLine=16777216:=aaB
 have Qm:D.names.length=D.made.length:=by unfold Dk.names;rw[Tj]
 refine⟨_,(de (g_ (A5 bx (pv 0) O.gC O.iV ig hr (a_ (pv 1) d_)))
   (de (g_ (A5 bx (pv 0) O.gC O.iV ig hr (a_ (pv 2) d_)))
   (de (g_ (A5 bx (pv 0) O.gC O.lj jL hr (a_ (pv 2) (a_ (pv 3) d_))))
   (de (lx 4 lR (gs mW (A5 bx (pv 0) O.gC O.Ak Du hr (a_ (pv 3) d_)) (iW (a_ (pv 3) d_))))
   (de (Cz (j:=5) xQ (gc oS).names [6] lR.nd rfl rfl rfl (iq (pv 4)) rfl (by decide+kernel) (fun _ _ _ _=>(iF (i:=6) lR.nd rfl (Or.inl rfl))) (fun _ _ _ _=>⟨_,qi (jt (lu (by exact iY hr) (pv 6) (zI hr (gE (pv 0) rfl) (pv 1)))),by(try simp only [lJ]);rfl⟩) (fun _ _ _ _=>A6 (pv 6)))
   (de (iH JE rfl (iq (pv 5)) (tM 6 lR) (fT (jy (by exact iY hr) (zI hr (gE (pv 0) rfl) (pv 1)) (pv 6) kW rfl)))
   (fT (h_ (pv 5))))))))),?_⟩
 refine ZE ?_;intro _ _ _ _ _ _
 refine⟨_,rfl,d,π.dx,_,rfl,x.hd,jx,_,rfl,d,D,W,st,rfl,X,hf,fun hs=>?_,fun hs=>q1 hs⟩
 refine⟨_,rfl,d,π.dx,_,rfl,x.hd,jx,_,rfl,d,D,W,c,rfl,X,hfc,fun hc=>?_,fun hc=>q2 hs hc⟩
 refine⟨_,rfl,d,π.dx,_,rfl,x.hd,pB,_,rfl,_,rfl,d,D,W,c,y,rfl,X,hfc,GD,hc,fun hy=>?_,fun hy=>q3 hs hc hy⟩
 have Vj:y∈D.names:=(I.kF c hc y hy).1
 have Xq:(D.nB y).length≤D.names.length:=aaN _ _
 refine⟨_,rfl,d,π.dx,_,rfl,x.hd,Kw,_,rfl,d,D,W,y,rfl,X,GD,j0,fun h=>absurd Vj h,fun _ p tE=>?_⟩
 have s1:=(gm.refl H).new (o:=.lst (gp (D.nB y))) tE
 refine⟨_,rfl,L2.j0,fun b hb=>?_⟩
 have s2:=s1.new (o:=.lst [V.str y]) hb
 refine⟨p,b,_,_,rfl,rfl,il hb b_,b_,by rw[Tj];show _+1≤_;omega,fun wt Q6=>?_⟩
 have s3:=s2.new (o:=.lst (gp (D.nB y)++[V.str y])) Q6
 have X8:(upd (upd (upd H p (.lst (gp (D.nB y)))) b (.lst [V.str y])) wt (.lst (gp (D.nB y)++[V.str y]))) wt=some (.lst (gp (D.nB y++[y]))):=by rw[b_,jg]
 generalize upd (upd (upd H p (.lst (gp (D.nB y)))) b (.lst [V.str y])) wt (.lst (gp (D.nB y)++[V.str y]))=H3 at s3 X8
 have x3:=x.same s3
 obtain⟨v1,v2,v3,v4,v5,kv,v6,v7⟩:=x3.vh st hs
 refine⟨_,rfl,wt,rfl,⟨_,hE.of X8⟩,kx (K:=K) (a:=wt) (xs:=gp (D.nB y++[y])) (by rw[Tj,ZD];show _+1≤_;omega) (fun i ys σ H4=>∃(v6:Option V)(zs:List Str),σ=[rr d,rs st,rs c,rs y,rr wt,none,v6]∧H4=H3∧ys=gp zs∧zs.length≤i∧zs=((D.nB y++[y]).take i).filter fun z=>z∉D.held st)
  ⟨none,[],rfl,rfl,rfl,ZA _,rfl⟩ (by rintro _ _ _ _ _ ⟨_,zs,_,e,e2,e3,_⟩;rw[e,e2];exact⟨hE.of X8,by rw[Tj];exact e3⟩) ?_ ?_⟩
 ·rintro i v ys σ H4 hx ⟨X_,zs,rfl,rfl,rfl,e3,e4⟩
  obtain⟨z,hz,rfl⟩:=lb hx
  refine⟨_,rfl,_,rfl,d,A.gq,π.dx,_,_,rfl,x3.hd,O.gC,O.iB,k8 _ _ _,_,rfl,π.h,.ref (π.ha st),rfl,?_,π.ha st,_,rfl,ja.k (k:=sk z) v6,_,rfl,?_⟩
  ·have:=ja.k (k:=sk st) x3.hh
   rw[v1] at this
   exact this
  ·rw[kq v7,take_snoc hz,aaF]
   by_cases hm:z∈D.held st
   ·rw[ZF hm]
    refine jz ⟨_,_,rfl,rfl,rfl,by omega,?_⟩
    rw[e4,aaj (by simpa using hm),aaX,aaa]
   ·rw[aaf hm]
    refine l7 ⟨_,rfl,_,_,rfl,rfl,jg _ _,Nz,?_⟩
    rw[e4,aab (by simpa using hm),aaX]
 ·rintro ys σ H4 ⟨X_,zs,rfl,rfl,rfl,e3,e4⟩ cm NS
  have e0:(gp (D.nB y++[y])).length=(D.nB y++[y]).length:=by rw[Tj]
  rw[e0,aas] at e4
  have e4:zs=D.m_ st y:=e4
  subst e4
  obtain⟨nc1,nc2⟩:=Gp (s:=st) I Vj
  have NT:=sO nc1 fun t ht=>(nc2 t ht).1
  have s4:=s3.new (o:=.lst (gp (D.m_ st y))) NS
  have x4:=x.same s4
  have Lm:(upd H4 cm (.lst (gp (D.m_ st y)))) cm=some (.lst (gp (D.m_ st y))):=b_
  have Ua:¬W cm:=fun z=>by obtain⟨kv,e⟩:=x4.dk cm z;rw[Lm] at e;cases e
  have Ub:=fun H' a b c=>q4 hs hc hy cm H4 H' s3 NS a b c
  generalize upd H4 cm (.lst (gp (D.m_ st y)))=H5 at s4 x4 Lm Ub
  dsimp only [ma];refine IT ?_;intro _
  let Jv:=fun(i:Nat) (σ:St) (H6:Hp)=>∃(v6:Option V)(π':Dp),σ=[rr d,rs st,rs c,rs y,rr wt,rr cm,v6]∧NC A H6 d (l9 D st (D.held st++(D.m_ st y).take i)) W π'∧lZ W H5 H6
  refine⟨_,rfl,cm,rfl,⟨_,hE.of Lm⟩,i0 (K:=K) (a:=cm) (xs:=gp (D.m_ st y)) Jv
   ⟨none,π,rfl,by rw[abx,aaa,xk];exact x4,fun b o e _=>e⟩ (by rintro _ _ _ _ ⟨_,_,_,_,e⟩;exact hE.of (e _ _ Lm Ua)) ?_ ?_⟩
  ·rintro i v σ H6 hx ⟨X_,π',rfl,x6,e6⟩
   obtain⟨z,hz,rfl⟩:=lb hx
   have hi:i<(D.m_ st y).length:=(List.getElem?_eq_some_iff.mp hz).1
   obtain⟨w1,w2,w3,w4,w5,kv6,w6,w7⟩:=x6.vh st hs
   have w7:kv6.map (·.1)=(D.held st++(D.m_ st y).take i).map sk:=by
    rw[w7]
    show(if st=st then _ else _:List Str).map sk=_
    rw[aap rfl]
   have IY:=ko w7
   have hhl:=sO (I.vd st hs) fun t ht=>(I.kF st hs t ht).1
   rw[ZD,aaD] at IY
   refine⟨_,rfl,d,A.gq,π'.dx,_,_,rfl,x6.hd,O.gC,O.iB,k8 _ _ _,_,rfl,π'.h,.ref (π'.ha st),rfl,?_,_,rfl,π'.ha st,_,rfl,nK.k (k:=sk z) w6 (by omega),?_⟩
   ·have:=ja.k (k:=sk st) x6.hh
    rw[w1] at this
    exact this
   ·have Uc:z∉D.held st++(D.m_ st y).take i:=fun hm=>by
     rcases W9.mp hm with hm|hm
     ·exact(nc2 z (V_ hz)).2 hm
     ·obtain⟨j,hj⟩:=aaO.mp hm
      have IL:j<i:=by have:=(List.getElem?_eq_some_iff.mp hj).1;rw[aaD] at this;omega
      rw[abN,aap IL] at hj
      have:=(abF (List.getElem?_eq_some_iff.mp hj).1 nc1).mp (hj.trans hz.symm)
      omega
    have x7:=x6.l9 (l:=D.held st++(D.m_ st y).take (i+1)) (kv:=putK kv6 (sk z) (V.bl true)) hs (by rw[take_snoc hz,←aaw];exact qc w7 Uc _)
    rw[B7] at x7
    exact⟨_,π',rfl,x7,fun b o e n=>by rw[e_ (fun(z:b=π'.ha st)=>n (by rw[z];exact w2))];exact e6 b o e n⟩
  ·rintro σ H6 ⟨X_,π',rfl,x6,e6⟩
   rw[Tj,aas,←B6] at x6
   exact⟨_,rfl,Ub H6 (e6 _ _ Lm Ua) ⟨π',x6⟩ e6⟩
def Pr(A:Ad):Sp:=fun vs H Q E=>∃(d:Addr)(D:Dk)(W:Addr→Prop)(s x:Str),vs=[.ref d,.str s,.str x]∧ia A H d D W∧Inv D∧wy D.made.length∧kI s∧kI x∧(∀z∈D.names,kI z)∧
 (s∉D.stores→E (.ref A.iU) none H)∧(s∈D.stores→x∉D.held s→E (.ref A.jV) none H)∧(s∈D.stores→x∈D.held s→¬(∀z∈D.held s,x∉D.iN z)→E (.ref A.sY) none H)∧(s∈D.stores→x∈D.held s→(∀z∈D.held s,x∉D.iN z)→∀H',ia A H' d (D.drop s x) W→lZ W H H'→Q .jo H')
theorem MH(T:Txt mg)(O:Ok K mg A):ip P w K mg base (tL P w) 2 A.yc A.yd ["self","store","patch"] (Pr A):=by
 have ig:=@jW P w K mg base A T O
 have jL:=@pC P w K mg base A T O
 refine O.BU.f.rm vy fun js A0 outer s H vs Q E hr h=>?_
 obtain⟨d,D,W,st,y,rfl,X,I,j0,hf,GD,hfz,q1,q2,q3,q5⟩:=h
 obtain⟨π,x⟩:=id X
 have yT:D.made.length≤4000:=j0
 have sz:sizeLine=16777216:=aaB
 refine⟨_,(de (g_ (A5 bx (pv 0) O.gC O.iV ig hr (a_ (pv 1) d_)))
   (de (g_ (A5 bx (pv 0) O.gC O.lj jL hr (a_ (pv 1) (a_ (pv 2) d_))))
   (de (yZ (iH JE rfl (CC (zI hr (gE (pv 0) rfl) (pv 1))) (tM 3 vy) (fT (iy (jt (ph (by exact iY hr) (pv 2) (zI hr (gE (pv 0) rfl) (pv 3)))) (fT (J2 (j9 bx O.Mr (by rfl) (lK (ix (mX (pv 3)) (ix i_ (ix (mX (pv 2)) nX))))))) hX))))
   (fT (g_ (Jt (zI hr (gE (pv 0) rfl) (pv 1)) (pv 2) ⟨rfl,rfl,rfl,rfl⟩)))))),?_⟩
 refine OQ ?_;intro _ _ _
 refine⟨_,rfl,d,π.dx,_,rfl,x.hd,jx,_,rfl,d,D,W,st,rfl,X,hf,fun hs=>?_,fun hs=>q1 hs⟩
 refine⟨_,rfl,d,π.dx,_,rfl,x.hd,pB,_,rfl,_,rfl,d,D,W,st,y,rfl,X,hf,GD,hs,fun hy=>?_,fun hy=>q2 hs hy⟩
 obtain⟨v1,v2,v3,v4,v5,kv,v6,v7⟩:=x.vh st hs
 have hdg:ja H π.h (.str st) (some (.ref (π.ha st))):=by
  have:=ja.k (k:=sk st) x.hh
  rw[v1] at this
  exact this
 refine⟨_,rfl,d,A.gq,π.dx,_,_,rfl,x.hd,O.gC,O.iB,k8 _ _ _,_,rfl,π.h,.ref (π.ha st),rfl,hdg,π.ha st,kv,rfl,v6,fun o uz=>?_⟩
 have f:∀{b u},H b=some u→b≠π.ha st→upd H (π.ha st) (.nA o (.dK kv)) b=some u:=fun{b u} e n=>by rw[e_ n];exact e
 have QY:d≠π.ha st:=iX x.hd v6 (fun z=>by cases z)
 let Jv:=fun(i:Nat) (σ:St) (H3:Hp)=>∃(v:Option V),σ=[rr d,rs st,rs y,v]∧H3=upd H (π.ha st) (.nA o (.dK kv))∧∀z∈(D.held st).take i,y∉D.iN z
 refine JI (d:=π.ha st) (o:=o) (kvs:=kv) Jv ⟨none,rfl,rfl,fun z hz=>by rw[abx] at hz;cases hz⟩ (by rintro _ _ _ ⟨_,_,e,_⟩;rw[e];exact b_) ?_ ?_
 ·rintro i k v σ H3 hi ⟨v0,rfl,rfl,II⟩
  obtain⟨z,hz,rfl⟩:=xj v7 hi
  have hzh:z∈D.held st:=V_ hz
  have T_:=(I.kF st hs z hzh).1
  obtain⟨a,ka,la,w1,w2,w3,w4,_,w6⟩:=x.vn z T_
  refine⟨_,rfl,_,rfl,d,A.gq,π.dx,_,_,rfl,f x.hd QY,O.gC,O.jd,tm _ _ _,_,rfl,π.n,.ref a,rfl,?_,a,_,rfl,ja.k (k:=sk y) (f w3 (fun z=>w2 (by rw[z];exact v2))),_,rfl,?_⟩
  ·have:=ja.k (k:=sk z) (f x.hn v4.symm)
   rw[w1] at this
   exact this
  ·rw[kq w4]
   by_cases Vk:y∈D.iN z
   ·rw[ZF ((w6 y).mpr Vk)]
    refine l7 ⟨π.ha st,o,_,b_,uz,?_⟩
    rw[wM v6]
    have Ld:=(hfz z T_).1
    exact⟨_,rfl,_,rfl,Ld,_,rfl,Ld,⟨_,rfl,by decide+kernel,⟨_,rfl,_,rfl,GD.1,_,rfl,GD.1,fun _=>q3 hs hy fun h=>h z hzh Vk⟩⟩⟩
   ·rw[aaf (fun h=>Vk ((w6 y).mp h))]
    refine jz ⟨_,rfl,rfl,fun t ht=>?_⟩
    rw[take_snoc hz] at ht
    rcases W9.mp ht with ht|ht
    ·exact II t ht
    ·rw[Tq.mp ht];exact Vk
 ·rintro σ H3 ⟨v0,rfl,rfl,Dm⟩
  have IY:=ko v7
  rw[IY,aas] at Dm
  have q4:=q5 hs hy Dm
  refine⟨π.ha st,o,_,b_,uz,?_⟩
  rw[wM v6]
  have Dq:∃v,iR kv (sk y)=some v:=by
   have:=kq v7 y
   rw[ZF hy] at this
   exact Option.isSome_iff_exists.mp this
  obtain⟨vv,hvv⟩:=Dq
  refine⟨_,rfl,d,A.gq,π.dx,_,_,rfl,x.hd,O.gC,O.iB,k8 _ _ _,_,rfl,π.h,.ref (π.ha st),rfl,hdg,π.ha st,rfl,.inl ⟨_,.inl v6⟩,_,rfl,kv,sk y,vv,v6,rfl,hvv,?_⟩
  refine q4 _ ⟨π,?_⟩ fun b u e n=>by rw[e_ (fun(z:b=π.ha st)=>n (by rw[z];exact v2))];exact e
  rw[Ip]
  exact x.l9 hs (Gn v7)
theorem Au(l:List Str):Paired (fun(x:Str) (v:V)=>v=.str x) l (gp l):=by
 induction l with
 | nil=>exact .nil
 | cons x r ih=>exact .cons rfl ih
theorem MJ{n:Nat}{K:Qqy}{H:Hp}{a c:Addr}{x y:List Str}(h1:hE K H a (gp x))(h2:hE K H c (gp y)):oA K H (n+1) (.ref a) (.ref c) (decide (x=y)):=
 oA.L6 (F:=fun(x:Str) (v:V)=>v=.str x) (fun p q u v hu hv=>by subst hu hv;exact oA.JA p q) h1 h2 (Au x) (Au y)
def NF(n:Int):Int→List Int→Prop
 | _,[]=>True
 | l,p::r=>(l≤p∧p<n)∧NF n (p+1) r
def KG(A:Ad):Sp:=fun vs H Q E=>∃(a:Addr)(ps:List Int)(n:Int),vs=[.ref a,.int n]∧H a=some (.lst (ps.map V.int))∧(∀p∈ps,p.natAbs.log2<1920)∧(NF n 0 ps→Q .jo H)∧(¬NF n 0 ps→E (.ref A.ox) none H)
theorem yS(T:Txt mg)(O:Ok K mg A):ip P w K mg base (tL P w) 1 A.rZ A.r9 ["places","size"] (KG A):=by
 refine O.vP.f.rm lh fun js A0 outer s H vs Q E hr h=>?_
 obtain⟨a,ps,n,rfl,ha,Qx,q,qe⟩:=h
 refine⟨_,(de (lx 2 lh f_)
   (fT (iH JE rfl (iq (pv 0)) (tM 3 lh) (de (iy (ll (D5 Ji GO (pv 2) (pv 3) (pv 1))) (fT (j9 bx O.Kg (by rfl) (lK (ix i_ (ix (JM (pv 3)) (ix i_ nX)))))) hX)
   (fT (lx 2 lh (gs iI (pv 3) f_))))))),?_⟩
 refine JC ?_;intro _
 let Jv:=fun(i:Nat) (σ:St) (H2:Hp)=>∃(l:Int)(v:Option V),σ=[rr a,ri n,ri l,v]∧H2=H∧(NF n 0 ps↔NF n l (ps.drop i))
 refine⟨_,rfl,a,rfl,⟨_,hE.of ha⟩,i0 (K:=K) (a:=a) (xs:=ps.map V.int) Jv ⟨0,none,rfl,rfl,Iff.rfl⟩ (by rintro _ _ _ _ ⟨_,_,_,e,_⟩;rw[e];exact hE.of ha) ?_ ?_⟩
 ·rintro i v σ H2 hx ⟨l,v0,rfl,rfl,e⟩
  rw[aam] at hx
  obtain⟨p,hp,rfl⟩:=Option.map_eq_some_iff.mp hx
  have hi:i<ps.length:=(List.getElem?_eq_some_iff.mp hp).1
  have hd:ps.drop i=p::ps.drop (i+1):=by rw[aaQ hi];congr 1;exact(List.getElem?_eq_some_iff.mp hp).2
  rw[hd] at e
  have hl:=Qx p (V_ hp)
  refine⟨_,rfl,_,rfl,_,_,rfl,rfl,_,rfl,?_⟩
  refine lE (fun h1=>?_) (fun h1=>?_)
  ·have h1:l≤p:=by simpa using h1
   refine⟨_,rfl,_,_,rfl,rfl,_,rfl,?_⟩
   refine lE (fun h2=>?_) (fun h2=>?_)
   ·have h2:¬p<n:=by simpa using h2
    refine⟨_,rfl,by decide+kernel,⟨_,rfl,_,rfl,hl,_,rfl,?_⟩⟩
    exact⟨aac (PyProof.Rows.int_text_len_1921 hl) (by decide),⟨_,rfl,by decide+kernel,fun _=>qe fun z=>h2 (e.mp z).1.2⟩⟩
   ·have h2:p<n:=by simpa using h2
    refine⟨_,rfl,_,_,rfl,rfl,_,_,rfl,rfl,e.trans ⟨fun z=>z.2,fun z=>⟨⟨h1,h2⟩,z⟩⟩⟩
  ·have h1:¬l≤p:=by simpa using h1
   refine⟨_,rfl,?_⟩
   refine⟨_,rfl,by decide+kernel,⟨_,rfl,_,rfl,hl,_,rfl,?_⟩⟩
   exact⟨aac (PyProof.Rows.int_text_len_1921 hl) (by decide),⟨_,rfl,by decide+kernel,fun _=>qe fun z=>h1 (e.mp z).1.1⟩⟩
 ·rintro σ H2 ⟨l,v0,rfl,rfl,e⟩
  rw[Tj,ach] at e
  exact q (e.mpr trivial)
def Sv(A:Ad):Sp:=fun vs H Q E=>∃(d t:Addr)(D:Dk)(W:Addr→Prop)(s x f:Str)(texts:List Str),vs=[.ref d,.str s,.str x,.str f,.ref t]∧ia A H d D W∧Inv D∧Small D.made∧(D.made.flatMap (·.ir)).length≤1000∧kI s∧kI x∧kI f∧H t=some (.lst (gp texts))∧texts.length≤1000∧
 (s∉D.stores→E (.ref A.iU) none H)∧
 (s∈D.stores→¬(Good x∧Good f)→∀H',gm H H'→E (.ref A.jA) none H')∧
 (s∈D.stores→Good x→Good f→x∈D.names→∀H',gm H H'→E (.ref A.jr) none H')∧
 (s∈D.stores→Good x→Good f→x∉D.names→D.uv s f≠[]→∀H',gm H H'→E (.ref A.lA) none H')∧
 (s∈D.stores→Good x→Good f→x∉D.names→D.uv s f=[]→(D.row s f).map (·.tx)=texts→∀H',gm H H'→E (.ref A.uC) none H')∧
 (s∈D.stores→Good x→Good f→x∉D.names→D.uv s f=[]→(D.row s f).map (·.tx)≠texts→∀H',ia A H' d (D.keep s (kc x f (D.row s f) texts)) W→lZ W H H'→Q .jo H')
theorem lD{x f:Str}:(∀y∈[x,f],Good y)↔Good x∧Good f:=by
 constructor
 ·exact fun h=>⟨h x (by simp),h f (by simp)⟩
 ·rintro⟨h1,h2⟩ y hy
  rcases W3.mp hy with z|z
  ·rw[z];exact h1
  ·rw[Tq.mp z];exact h2
theorem vY{D:Dk}(I:Inv D){s f x:Str}(hs:s∈D.stores)(texts:List Str):∀y∈iJ (kc x f (D.row s f) texts),y∈D.names:=by
 intro y hy
 unfold iJ at hy
 rcases W9.mp hy with hy|hy
 ·obtain⟨m,hm,rfl⟩:=List.mem_map.mp hy
  obtain⟨hm,hn⟩:=ZH.mp hm
  have hn:m.1≠x:=aaA hn
  have fin:m∈(D.row s f).map (·.nm)→m.1∈D.names:=fun h=>by
   obtain⟨l,hl,rfl⟩:=List.mem_map.mp h
   obtain⟨p,h1,_,h3⟩:=I.vg hl
   have hp:=(Inv.kQ.mp h1).1
   rw[n5 (I.Fq p hp) (Wc h3)]
   exact Wc hp
  rcases W9.mp hm with hm|hm
  ·obtain⟨l,hl,rfl⟩:=List.mem_map.mp hm
   exact fin (Wc (ZH.mp hl).1)
  ·obtain⟨l,hl,hm⟩:=aa5.mp hm
   have LF:l.up=some m∨l.lo=some m:=by
    rcases W9.mp hm with hm|hm
    ·exact .inl (by simpa using hm)
    ·exact .inr (by simpa using hm)
   rcases y6 texts 0 0 none l hl m LF with(z|⟨t,z⟩)|z
   ·cases z
   ·obtain⟨q,_,_,l',nS,rfl⟩:=uu z
    exact fin (Wc (V_ nS))
   ·rw[rH] at z
    obtain⟨j,_,rfl⟩:=List.mem_map.mp z
    exact absurd rfl hn
 ·cases hy
theorem qI{x f:Str}{row:List Ln}{texts:List Str}:(kc x f row texts).ir.length≤texts.length∧(kc x f row texts).i3.length≤row.length:=by
 have rise:=pP (row.map (·.tx)) texts
 rw[Tj] at rise
 have h:=G1 rise x
 refine⟨by show(jD x texts _).length≤_;omega,?_⟩
 show((row.filter _).map _).length≤_
 rw[Tj]
 exact aaN _ _
theorem B8(T:Txt mg)(O:Ok K mg A):ip P w K mg base (tL P w) 6 A.tV A.tW ["self","store","patch","file","texts"] (Sv A):=by
 have ig:=@jW P w K mg base A T O
 have jY:=@qH P w K mg base A T O
 have ji:=@pb P w K mg base A T O
 have kZ:=@sI P w K mg base A T O
 have xw:=@vX P w K mg base A T O
 have mR:=@Df P w K mg base A T O
 refine O.sy.f.rm oh fun js A0 outer s H vs Q E hr h=>?_
 obtain⟨d,t,D,W,st,y,f,texts,rfl,X,I,sm,Ya,yD,GD,Qy,ht,Qb,q1,q2,q3,q4,q5,q6⟩:=h
 obtain⟨π,x⟩:=id X
 have sz:sizeLine=16777216:=aaB
 have Fb:(D.row st f).length≤1000:=aac (I.vj st f) Ya
 refine⟨_,(de (g_ (A5 bx (pv 0) O.gC O.iV ig hr (a_ (pv 1) d_)))
   (de (g_ (A5 bx (pv 0) O.gC O.lY jY hr (a_ (pv 2) (a_ (iW (a_ (pv 3) d_)) d_))))
   (de (lx 5 oh (A5 bx (pv 0) O.gC O.k7 ji hr (a_ (pv 1) (a_ (pv 3) d_))))
   (de (iy (uY (D6 (pv 5) O.j6 O.jJ.t kZ (hr.mono (by decide)) O.jJ.b .nil pM) (fun _=>rfl)) (fT (j9 bx O.EJ (by rfl) (lK (ix i_ (ix (mX (pv 3)) (ix i_ nX)))))) hX)
   (de (iy (ik (FO 3 (by exact OP hr)) (xK tQ (gc mE).names [6] rfl (iq (gE (pv 5) rfl)) rfl (by decide+kernel) (fun _ _ _ _=>(iF (i:=6) oh.nd rfl (Or.inl rfl))) (fun _ _ _ _=>mj) (fun _ _ _ _=>A6 (gE (pv 6) rfl))) (pv 4) (iE _)) (fT (j9 bx O.Kh (by rfl) (lK (ix i_ (ix (mX (pv 3)) (ix i_ nX)))))) hX)
   (fT (g_ (uS (pv 0) O.gC O.s_ mR hr (a_ (pv 1) (a_ (ml O.sx xw hr (a_ (pv 2) (a_ (pv 3) (a_ (gE (pv 5) rfl) (a_ (pv 4) d_))))) d_)))))))))),?_⟩
 refine RU ?_;intro _ _ _ _ _
 refine⟨_,rfl,d,π.dx,_,rfl,x.hd,jx,_,rfl,d,D,W,st,rfl,X,yD,fun hs=>?_,fun hs=>q1 hs⟩
 refine⟨_,rfl,d,π.dx,_,rfl,x.hd,qG,_,rfl,_,rfl,L2.j0,fun l hl=>?_⟩
 have s1:gm H (upd H l (.lst [V.str f])):=(gm.refl H).new hl
 refine⟨d,l,D,W,y,[f],rfl,X.same s1,b_,by show 1≤1000;decide,fun z hz=>?_,fun h H' s'=>q2 hs (fun g=>h (lD.mpr g)) H' (s1.trans s'),fun h hn H' s'=>q3 hs (lD.mp h).1 (lD.mp h).2 hn H' (s1.trans s'),fun h hn H2 s2=>?_⟩
 ·rcases W3.mp hz with z|z
  ·rw[z];exact GD
  ·rw[Tq.mp z];exact Qy
 obtain⟨gy,gf⟩:=lD.mp h
 have Fs:=s1.trans s2
 have X2:=X.same Fs
 refine⟨_,rfl,d,π.dx,_,rfl,Fs _ _ x.hd,o_,_,rfl,_,rfl,d,D,W,st,f,rfl,X2,yD,sm,I,fun h=>absurd hs h,fun _ p H3 s3 tE sg=>?_⟩
 obtain⟨px,ah,ln,g1,g2,⟨as,g3,g4⟩⟩:=id sg
 have Fg:=Fs.trans s3
 have hlen:=aaq g4
 refine⟨_,rfl,p,px,_,rfl,g1,Kt ah ln,p,_,_,rfl,sg,KA I st f,aac Fb (by decide),fun r H4 vs s4 sS A2 Dt=>?_⟩
 have N2:=Fg.trans s4
 have I_:=aaq Dt
 by_cases hq:D.uv st f=[]
 case neg=>
  have Yb:vs≠[]:=fun z=>hq (by
   have e:(jv (Ah (gg (D.iz st) f)) (D.row st f)).length=0:=by rw[I_,z];rfl
   exact aaK.mp e)
  refine⟨true,.inl ⟨_,hE.of A2,by simpa using Yb⟩,l7 ?_⟩
  exact⟨_,rfl,by decide+kernel,⟨_,rfl,_,rfl,Qy.1,_,rfl,Qy.1,⟨_,rfl,by decide+kernel,fun _=>q4 hs gy gf hn hq _ N2⟩⟩⟩
 have Yb:vs=[]:=by
  have e:(jv (Ah (gg (D.iz st) f)) (D.row st f)).length=0:=by rw[show jv (Ah (gg (D.iz st) f)) (D.row st f)=[] from hq];rfl
  rw[I_] at e
  exact aaK.mp e
 refine⟨false,.inl ⟨_,hE.of A2,by rw[Yb];rfl⟩,jz ?_⟩
 have g14:=s4 _ _ g1
 have Yc:=s4 _ _ g3
 let Jv:=fun(i:Nat) (ys:List V) (σ:St) (H5:Hp)=>∃(v6:Option V),σ=[rr d,rs st,rs y,rs f,rr t,rr p,v6]∧H5=H4∧ys=gp (((D.row st f).take i).map (·.tx))
 refine⟨_,rfl,p,A.ie,px,_,_,rfl,g14,O.j6,O.iu,lC ah ln,ln,rfl,⟨_,hE.of Yc⟩,kx (K:=K) (a:=ln) (xs:=as.map V.ref) (by rw[Tj];omega) Jv
  ⟨none,rfl,rfl,rfl⟩ (by rintro _ _ _ _ _ ⟨_,_,e,e2⟩;rw[e,e2];exact⟨hE.of Yc,by rw[Tj,Tj,aaD];omega⟩) ?_ ?_⟩
 ·rintro i v ys σ H5 hx ⟨v6,rfl,rfl,rfl⟩
  obtain⟨b,hb,rfl⟩:=j7 hx
  obtain⟨l2,K9,dx,vn,vu,vl,k1,k2,k3,k4⟩:=iw g4 hb
  refine⟨_,rfl,b,A.hU,dx,_,_,rfl,s4 _ _ k1,O.iQ,O.jK,Al,_,rfl,rfl,?_⟩
  rw[take_snoc K9,aar,jg]
  rfl
 ·rintro ys σ H5 ⟨v6,rfl,rfl,rfl⟩ o Ve
  rw[Tj,hlen,aas]
  have s5:=N2.new (o:=.lst (gp ((D.row st f).map (·.tx)))) Ve
  have Lo:gm H5 (upd H5 o (.lst (gp ((D.row st f).map (·.tx))))):=(gm.refl H5).new Ve
  refine⟨_,rfl,_,⟨o,t,rfl,rfl⟩,MJ (hE.of b_) (hE.of (s5 _ _ ht)),_,rfl,?_⟩
  by_cases he:(D.row st f).map (·.tx)=texts
  ·rw[ZF he]
   refine l7 ?_
   exact⟨_,rfl,by decide+kernel,⟨_,rfl,_,rfl,Qy.1,_,rfl,Qy.1,⟨_,rfl,by decide+kernel,fun _=>q5 hs gy gf hn hq he _ s5⟩⟩⟩
  ·rw[aaf he]
   refine jz ?_
   have X5:=X.same s5
   refine⟨_,rfl,d,π.dx,_,rfl,s5 _ _ x.hd,C8,_,rfl,_,rfl,_,rfl,_,rfl,p,A.ie,px,_,_,rfl,Lo _ _ g14,O.j6,O.iu,lC ah ln,_,rfl,y,f,ln,t,D.row st f,texts,rfl,⟨as,Lo _ _ Yc,Paired.jZ g4 fun _ _ z=>(z.same s4).same Lo⟩,s5 _ _ ht,Fb,Qb,fun pa H6 s6 hpa0 Yd=>?_⟩
   have M_:=s5.trans s6
   obtain⟨cl1,cl2⟩:=qI (x:=y) (f:=f) (row:=D.row st f) (texts:=texts)
   refine⟨d,pa,D,W,st,_,rfl,X.same M_,I,sm.many,hs,Yd,hn,aac cl1 (aac Qb (by decide)),aac cl2 (aac Fb (by decide)),vY I hs texts,fun H7 X7 s7=>?_⟩
   exact q6 hs gy gf hn hq he H7 X7 fun b o e n=>s7 b o (M_ _ _ e) n
def Pu(A:Ad):Sp:=fun vs H Q E=>∃(d:Addr)(D:Dk)(W:Addr→Prop)(s x o:Str),vs=[.ref d,.str s,.str x,.str o]∧ia A H d D W∧Inv D∧wy D.made.length∧kI s∧kI x∧kI o∧
 (s∉D.stores→E (.ref A.iU) none H)∧(s∈D.stores→¬Good x→∀H',gm H H'→E (.ref A.jA) none H')∧(s∈D.stores→Good x→x∈D.names→∀H',gm H H'→E (.ref A.jr) none H')∧
 (s∈D.stores→Good x→x∉D.names→o∉D.held s→∀H',gm H H'→E (.ref A.jV) none H')∧
 (s∈D.stores→Good x→x∉D.names→o∈D.held s→∀H',ia A H' d (D.keep s ⟨x,none,[],[],some o⟩) W→lZ W H H'→Q .jo H')
theorem Av{x:Str}:(∀y∈[x],Good y)↔Good x:=⟨fun h=>h x (by simp),fun h y hy=>by rw[Tq.mp hy];exact h⟩
theorem Hc(T:Txt mg)(O:Ok K mg A):ip P w K mg base (tL P w) 4 A.x9 A.x_ ["self","store","patch","other"] (Pu A):=by
 have ig:=@jW P w K mg base A T O
 have jY:=@qH P w K mg base A T O
 have jL:=@pC P w K mg base A T O
 have jX:=@pA P w K mg base A T O
 have mR:=@Df P w K mg base A T O
 refine O.p_.f.rm CM fun js A0 outer s H vs Q E hr h=>?_
 obtain⟨d,D,W,st,y,ot,rfl,X,I,j0,yD,GD,hfo,q1,q2,q3,q4,q5⟩:=h
 obtain⟨π,x⟩:=id X
 refine⟨_,(de (g_ (A5 bx (pv 0) O.gC O.iV ig hr (a_ (pv 1) d_)))
   (de (g_ (A5 bx (pv 0) O.gC O.lY jY hr (a_ (pv 2) (a_ (iW d_) d_))))
   (de (g_ (A5 bx (pv 0) O.gC O.lj jL hr (a_ (pv 1) (a_ (pv 3) d_))))
   (fT (g_ (uS (pv 0) O.gC O.s_ mR hr (a_ (pv 1) (a_ (u0 O.CV jX (hr.mono (by decide)) (by rfl) O.CW O.lW.b .nil pM (a_ (pv 2) (a_ ug (a_ (iW d_) (a_ (iW d_) (a_ (pv 3) d_)))))) d_)))))))),?_⟩
 refine OQ ?_;intro _ _ _
 refine⟨_,rfl,d,π.dx,_,rfl,x.hd,jx,_,rfl,d,D,W,st,rfl,X,yD,fun hs=>?_,fun hs=>q1 hs⟩
 refine⟨_,rfl,d,π.dx,_,rfl,x.hd,qG,_,rfl,L2.j0,fun l hl=>?_⟩
 have s1:gm H (upd H l (.lst [])):=(gm.refl H).new hl
 refine⟨d,l,D,W,y,[],rfl,X.same s1,b_,by show 0≤1000;decide,fun z hz=>by rw[Tq.mp hz];exact GD,fun h H' s'=>q2 hs (fun g=>h (Av.mpr g)) H' (s1.trans s'),fun h hn H' s'=>q3 hs (Av.mp h) hn H' (s1.trans s'),fun h hn H2 s2=>?_⟩
 have gy:=Av.mp h
 have Fs:=s1.trans s2
 refine⟨_,rfl,d,π.dx,_,rfl,Fs _ _ x.hd,pB,_,rfl,_,rfl,d,D,W,st,ot,rfl,X.same Fs,yD,hfo,hs,fun ho=>?_,fun ho=>q4 hs gy hn ho _ Fs⟩
 refine⟨_,rfl,d,π.dx,_,rfl,Fs _ _ x.hd,C8,_,rfl,_,rfl,L2.j0,fun a ha=>⟨L2.j0,fun b hb=>⟨_,rfl,?_⟩⟩⟩
 have s3:=Fs.new (o:=.lst []) ha
 have s4:=s3.new (o:=.lst []) hb
 intro o dx no Qp XI
 refine⟨o,dx,_,_,_,_,_,rfl,b_,fun H5 r6 r7=>⟨rfl,?_⟩⟩
 have s5:gm (upd (upd H2 a (.lst [])) b (.lst [])) H5:=fun c u ec=>by
  rw[r6 c (gj ec no),e_ (gj ec no),e_ (gj ec Qp)]
  exact ec
 have s15:=s4.trans s5
 have pt:oE A H5 o ⟨y,none,[],[],some ot⟩:=⟨dx,_,a,b,.str ot,r7,rfl,⟨[],s5 _ _ (il hb b_),.nil⟩,⟨[],s5 _ _ b_,.nil⟩,rfl⟩
 refine⟨d,o,D,W,st,_,rfl,X.same s15,I,j0,hs,pt,hn,aaI _,aaI _,fun z hz=>?_,fun H7 X7 s7=>?_⟩
 ·have:z=ot:=by simpa[iJ,named] using hz
  rw[this];exact(I.kF st hs ot ho).1
 ·exact q5 hs gy hn ho H7 X7 fun b o e n=>s7 b o (s15 _ _ e) n
def Sw(A:Ad):Sp:=fun vs H Q E=>∃(d t:Addr)(D:Dk)(W:Addr→Prop)(s x f:Str)(ps:List Int),vs=[.ref d,.str s,.str x,.str f,.ref t]∧ia A H d D W∧Inv D∧Small D.made∧kI s∧kI x∧kI f∧H t=some (.lst (ps.map V.int))∧ps.length≤1000∧(∀p∈ps,p.natAbs.log2<1920)∧
 (s∉D.stores→E (.ref A.iU) none H)∧
 (s∈D.stores→¬(Good x∧Good f)→∀H',gm H H'→E (.ref A.jA) none H')∧
 (s∈D.stores→Good x→Good f→x∈D.names→∀H',gm H H'→E (.ref A.jr) none H')∧
 (s∈D.stores→Good x→Good f→x∉D.names→¬NF (D.row s f).length 0 ps→∀H',gm H H'→E (.ref A.ox) none H')∧
 (s∈D.stores→Good x→Good f→x∉D.names→ps=[]→∀H',gm H H'→E (.ref A.uC) none H')∧
 (s∈D.stores→Good x→Good f→x∉D.names→NF (D.row s f).length 0 ps→ps≠[]→∀H',ia A H' d (D.keep s ⟨x,some f,[],ps.filterMap fun p=>((D.row s f)[p.toNat]?).map (·.nm),none⟩) W→lZ W H H'→Q .jo H')
theorem He{n:Int}:∀{l:Int} {ps:List Int},0≤l→NF n l ps→∀p∈ps,0≤p∧p<n
 | _,[],_,_,p,hp=>by cases hp
 | l,q::r,h0,h,p,hp=>by
  obtain⟨⟨h1,h2⟩,h3⟩:=h
  rcases W3.mp hp with rfl|hp
  ·exact⟨by omega,h2⟩
  ·exact He (by omega) h3 p hp
theorem KH(T:Txt mg)(O:Ok K mg A):ip P w K mg base (tL P w) 6 A.Ab A.Ac ["self","store","patch","file","places"] (Sw A):=by
 have ig:=@jW P w K mg base A T O
 have jY:=@qH P w K mg base A T O
 have ji:=@pb P w K mg base A T O
 have AE:=@yS P w K mg base A T O
 have jX:=@pA P w K mg base A T O
 have mR:=@Df P w K mg base A T O
 refine O.Aj.f.rm rV fun js A0 outer s H vs Q E hr h=>?_
 obtain⟨d,t,D,W,st,y,f,ps,rfl,X,I,sm,yD,GD,Qy,ht,Qb,Qx,q1,q2,q3,q4,q5,q6⟩:=h
 obtain⟨π,x⟩:=id X
 have sz:sizeLine=16777216:=aaB
 have Fb:(D.row st f).length≤4000:=aac (I.vj st f) sm.ir
 refine⟨_,(de (g_ (A5 bx (pv 0) O.gC O.iV ig hr (a_ (pv 1) d_)))
   (de (g_ (A5 bx (pv 0) O.gC O.lY jY hr (a_ (pv 2) (a_ (iW (a_ (pv 3) d_)) d_))))
   (de (mV (i:=5) rV.nd rfl (Or.inr rfl) (gE (A5 bx (pv 0) O.gC O.k7 ji hr (a_ (pv 1) (a_ (pv 3) d_))) rfl))
   (de (g_ (Wb bx O.vP AE hr (a_ (pv 4) (a_ (gF gz (by rfl) T.jH aay (a_ (pv 5) d_)) d_))))
   (de (iy (ll (uY (pv 4) (fun _=>rfl))) (fT (j9 bx O.Kh (by rfl) i_)) hX)
   (fT (g_ (uS (pv 0) O.gC O.s_ mR hr (a_ (pv 1) (a_ (u0 O.CV jX (hr.mono (by decide)) (by rfl) O.CW O.lW.b .nil pM (a_ (pv 2) (a_ (pv 3) (a_ (iW d_) (a_ (xK zU (gc qy).names [6] rfl (iq (pv 4)) rfl (by decide+kernel) (fun _ _ _ _=>(iF (i:=6) rV.nd rfl (Or.inl rfl))) (fun _ _ _ _=>mj) (fun _ _ _ _=>A6 (gE (mD (pv 5) (pv 6)) rfl))) (a_ ug d_)))))) d_)))))))))),?_⟩
 refine RU ?_;intro _ _ _ _ _
 refine⟨_,rfl,d,π.dx,_,rfl,x.hd,jx,_,rfl,d,D,W,st,rfl,X,yD,fun hs=>?_,fun hs=>q1 hs⟩
 refine⟨_,rfl,d,π.dx,_,rfl,x.hd,qG,_,rfl,_,rfl,L2.j0,fun l hl=>?_⟩
 have s1:gm H (upd H l (.lst [V.str f])):=(gm.refl H).new hl
 refine⟨d,l,D,W,y,[f],rfl,X.same s1,b_,by show 1≤1000;decide,fun z hz=>?_,fun h H' s'=>q2 hs (fun g=>h (lD.mpr g)) H' (s1.trans s'),fun h hn H' s'=>q3 hs (lD.mp h).1 (lD.mp h).2 hn H' (s1.trans s'),fun h hn H2 s2=>?_⟩
 ·rcases W3.mp hz with z|z
  ·rw[z];exact GD
  ·rw[Tq.mp z];exact Qy
 obtain⟨gy,gf⟩:=lD.mp h
 have Fs:=s1.trans s2
 have X2:=X.same Fs
 refine⟨_,rfl,d,π.dx,_,rfl,Fs _ _ x.hd,o_,_,rfl,_,rfl,d,D,W,st,f,rfl,X2,yD,sm,I,fun h=>absurd hs h,fun _ p H3 s3 tE ⟨px,ah,ln,g1,g2,⟨as,g3,g4⟩⟩=>?_⟩
 have Fg:=Fs.trans s3
 have hlen:=aaq g4
 have el:((as.map V.ref).length:Int)=((D.row st f).length:Int):=by rw[Tj,hlen]
 refine⟨p,A.ie,px,_,_,rfl,g1,O.j6,O.iu,lC ah ln,?_⟩
 refine⟨_,rfl,_,rfl,ln,_,rfl,.inl (hE.of g3),?_⟩
 rw[el]
 refine⟨t,ps,_,rfl,Fg _ _ ht,Qx,fun ok=>?_,fun nok=>q4 hs gy gf hn nok _ Fg⟩
 by_cases Vl:ps=[]
 ·refine⟨_,rfl,false,.inl ⟨_,hE.of (Fg _ _ ht),by rw[Vl];rfl⟩,?_⟩
  exact q5 hs gy gf hn Vl _ Fg
 ·refine⟨_,rfl,true,.inl ⟨_,hE.of (Fg _ _ ht),by simpa using Vl⟩,?_⟩
  refine jz ?_
  refine⟨_,rfl,d,π.dx,_,rfl,Fg _ _ x.hd,C8,_,rfl,_,rfl,_,rfl,L2.j0,fun a ha=>?_⟩
  have s4:=Fg.new (o:=.lst []) ha
  have Qz:gm H3 (upd H3 a (.lst [])):=(gm.refl H3).new ha
  have Vh:(upd H3 a (.lst [])) a=some (.lst []):=b_
  generalize upd H3 a (.lst [])=H4 at s4 Qz Vh
  let Jv:=fun(i:Nat) (ys:List V) (σ:St) (H5:Hp)=>∃(v6:Option V),σ=[rr d,rs st,rs y,rs f,rr t,rr ln,v6]∧H5=H4∧ys.length≤i∧Paired (lF H3) ys ((ps.take i).filterMap fun p=>((D.row st f)[p.toNat]?).map (·.nm))
  refine⟨_,rfl,t,rfl,⟨_,hE.of (s4 _ _ ht)⟩,kx (K:=K) (a:=t) (xs:=ps.map V.int) (by rw[Tj];omega) Jv
   ⟨none,rfl,rfl,ZA _,.nil⟩ (by rintro _ _ _ _ _ ⟨_,_,e,e2,_⟩;rw[e];exact⟨hE.of (s4 _ _ ht),e2⟩) ?_ ?_⟩
  ·rintro i v ys σ H5 hx ⟨v6,rfl,rfl,e2,e3⟩
   rw[aam] at hx
   obtain⟨pl,qg,rfl⟩:=Option.map_eq_some_iff.mp hx
   obtain⟨b1,b2⟩:=He (by decide) ok pl (V_ qg)
   have kU:pl.toNat<(D.row st f).length:=by omega
   have Fc:(D.row st f)[pl.toNat]?=some (D.row st f)[pl.toNat]:=Wd kU
   obtain⟨b,hb,dx,vn,vu,vl,k1,⟨nt,rfl,k2⟩,k3,k4⟩:=Ao g4 Fc
   refine⟨_,rfl,_,rfl,ln,_,_,_,rfl,rfl,hE.of (Qz _ _ g3),gH (j:=pl.toNat) (by omega) hb,b,A.hU,dx,_,_,rfl,Qz _ _ k1,O.iQ,O.hG,i7,?_⟩
   refine⟨_,rfl,rfl,Nz,?_⟩
   rw[take_snoc qg,abO,abr,Fc]
   exact iC e3 ⟨nt,rfl,k2⟩
  ·rintro ys σ H5 ⟨v6,rfl,rfl,e2,e3⟩ c hc
   rw[Tj,aas] at e3
   have s5:=s4.new (o:=.lst ys) hc
   intro o dx no Qp XI
   refine⟨o,dx,_,_,_,_,_,rfl,b_,fun H6 r6 r7=>⟨rfl,?_⟩⟩
   have s6:gm (upd H5 c (.lst ys)) H6:=fun b u ec=>by
    rw[r6 b (gj ec no),e_ (gj ec no),e_ (gj ec Qp)]
    exact ec
   have M_:=s5.trans s6
   have s36:gm H3 H6:=(Qz.new hc).trans s6
   have pt:oE A H6 o ⟨y,some f,[],ps.filterMap fun p=>((D.row st f)[p.toNat]?).map (·.nm),none⟩:=⟨dx,_,a,c,.jo,r7,rfl,⟨[],s6 _ _ (il hc Vh),.nil⟩,⟨ys,s6 _ _ b_,Paired.jZ e3 fun _ _ z=>z.same s36⟩,rfl⟩
   have NT:(ps.filterMap fun p=>((D.row st f)[p.toNat]?).map (·.nm)).length≤4000:=aac (abY _ _) (by omega)
   refine⟨d,o,D,W,st,_,rfl,X.same M_,I,sm.many,hs,pt,hn,aaI _,NT,fun z hz=>?_,fun H7 X7 s7=>q6 hs gy gf hn ok Vl H7 X7 fun b o e n=>s7 b o (M_ _ _ e) n⟩
   unfold iJ at hz
   rcases W9.mp hz with hz|hz
   ·obtain⟨m,hm,rfl⟩:=List.mem_map.mp hz
    have hm:=(ZH.mp hm).1
    have hm:m∈(ps.filterMap fun p=>((D.row st f)[p.toNat]?).map (·.nm)):=by simpa[named] using hm
    obtain⟨pl,_,qg⟩:=abM.mp hm
    obtain⟨l',nS,rfl⟩:=Option.map_eq_some_iff.mp qg
    obtain⟨q,h1,_,h3⟩:=I.vg (V_ nS)
    have hq:=(Inv.kQ.mp h1).1
    rw[n5 (I.Fq q hq) (Wc h3)]
    exact Wc hq
   ·cases hz
noncomputable def cellAt(ns:List Int)(k:Int):Int:=(ns[k.toNat]?).getD 0
noncomputable def Dg(i:Int):Str:=⟨#[(me.cps[(i%36).toNat]?).getD 0]⟩
noncomputable def kJ(cell k:Int):Nat→Str
 | 0=>Str.ofString ""
 | j+1=>kJ cell k j++(if(j:Int)=cell/12%(1+cell%12) then Dg (k+cell/144) else Dg (cell/144+5*(j:Int)+cell/5184%2*k*7))
noncomputable def nameOf(cell k:Int):Str:=kJ cell k (1+cell%12).toNat
theorem Dh:me.length=36:=by decide+kernel
theorem KI:me.cps.size=36:=Dh
theorem Di(a b:Str):(a++b).cps.toList=a.cps.toList++b.cps.toList:=Array.toList_append
theorem Hf(a b:Str):(a++b).length=a.length+b.length:=Array.size_append
theorem za(i:Int):∃c,AZ me.cps.toList (i%36)=some c∧Dg i=⟨#[c]⟩∧c∈me.cps.toList:=by
 have b:=mod_lt i 36 (by decide)
 obtain⟨c,e,ev⟩:=nY (xs:=me.cps.toList) b.1 (by rw[abh,KI];exact b.2)
 rw[aa9] at ev
 exact⟨c,e,by unfold Dg;rw[ev];rfl,V_ (i:=(i%36).toNat) (by rw[aa9];exact ev)⟩
theorem zb(cell k:Int):∀j,(kJ cell k j).length=j∧∀c∈(kJ cell k j).cps.toList,c∈me.cps.toList
 | 0=>⟨by unfold kJ;decide+kernel,fun c hc=>by
   have:(kJ cell k 0).cps.toList=[]:=by unfold kJ;decide+kernel
   rw[this] at hc;cases hc⟩
 | j+1=>by
  have ⟨h1,h2⟩:=zb cell k j
  unfold kJ
  obtain⟨c1,_,e1,m1⟩:=za (k+cell/144)
  obtain⟨c2,_,e2,m2⟩:=za (cell/144+5*(j:Int)+cell/5184%2*k*7)
  split
  ·rw[e1,Hf,Di]
   refine⟨by rw[h1];rfl,fun c hc=>?_⟩
   rcases W9.mp hc with hc|hc
   ·exact h2 c hc
   ·rw[Tq.mp hc];exact m1
  ·rw[e2,Hf,Di]
   refine⟨by rw[h1];rfl,fun c hc=>?_⟩
   rcases W9.mp hc with hc|hc
   ·exact h2 c hc
   ·rw[Tq.mp hc];exact m2
theorem kr(cell k:Int):Good (nameOf cell k):=by
 obtain⟨h1,h2⟩:=zb cell k (1+cell%12).toNat
 have b:=mod_lt cell 12 (by decide)
 exact⟨by unfold nameOf;rw[h1];omega,by unfold nameOf;rw[h1];omega,h2⟩
theorem MK{x:Str}(h:x.length≤1000)(hc:∀c∈x.cps.toList,c<1114112):kI x:=by
 refine⟨?_,h⟩
 have z:=PySem.StrLaws.reprText_len x fun c Cf=>Nat.lt_trans (hc c Cf) (by decide)
 omega
theorem KJ:∀c∈me.cps.toList,c<1114112:=by decide+kernel
theorem Good.ke{x:Str}(g:Good x):kI x:=MK (by have:=g.2.1;omega) fun c hc=>KJ c (g.2.2 c hc)
noncomputable def Hg(i:Int):Nat:=(me.cps[(i%36).toNat]?).getD 0
theorem Iq{i j:Int}(h:Hg i=Hg j):i%36=j%36:=by
 have key:∀a<36,∀b<36,(me.cps[a]?).getD 0=(me.cps[b]?).getD 0→a=b:=by decide+kernel
 have b1:=mod_lt i 36 (by decide)
 have b2:=mod_lt j 36 (by decide)
 have:=key (i%36).toNat (by omega) (j%36).toNat (by omega) h
 omega
theorem Dj(cell k:Int):∀n j,j<n→(kJ cell k n).cps.toList[j]?=some (if(j:Int)=cell/12%(1+cell%12) then Hg (k+cell/144) else Hg (cell/144+5*(j:Int)+cell/5184%2*k*7))
 | 0,j,h=>by omega
 | n+1,j,h=>by
  have hl:(kJ cell k n).cps.toList.length=n:=by rw[abh];exact(zb cell k n).1
  rw[kJ,Di]
  by_cases e:j=n
  ·subst e
   rw[aba (by omega),hl,Nat.sub_self]
   split<;>rfl
  ·rw[abP (by omega)]
   exact Dj cell k n j (by omega)
theorem sP{c i j:Int}(h0:0≤i)(h1:i<36)(h2:0≤j)(h3:j<36)(h:nameOf c i=nameOf c j):i=j:=by
 have b:=mod_lt c 12 (by decide)
 have b2:=mod_lt (c/12) (1+c%12) (by omega)
 have e1:=Dj c i (1+c%12).toNat (c/12%(1+c%12)).toNat (by omega)
 have e2:=Dj c j (1+c%12).toNat (c/12%(1+c%12)).toNat (by omega)
 have h:kJ c i (1+c%12).toNat=kJ c j (1+c%12).toNat:=h
 rw[h] at e1
 rw[e1] at e2
 rw[aap (by omega),aap (by omega)] at e2
 have:=Iq (aau e2)
 omega
def Pw(K:Qqy):Sp:=fun vs H Q _=>∃(a:Addr)(ns:List Int)(k:Int),vs=[.ref a,.int k]∧hE K H a (ns.map V.int)∧0≤k∧Q (.int (cellAt ns k)) H
theorem Hh(T:Txt mg)(O:Ok K mg A):ip P w K mg base mU 1 A.r_ A.sd ["script","k"] (Pw K):=by
 refine O.iA.f.rl yO fun js A outer s H vs Q E hr h=>?_
 obtain⟨a,ns,k,rfl,ha,h0,q⟩:=h
 refine⟨_,(de (iy (ik GO (pv 1) (gF gz (by rfl) T.jH aay (a_ (pv 0) d_)) (iE _)) (fT (h_ (mD (pv 0) (pv 1)))) hX)
   (fT (h_ f_))),?_⟩
 refine JC ?_;intro _
 refine⟨_,rfl,_,rfl,a,_,rfl,.inl ha,_,_,rfl,rfl,_,rfl,?_⟩
 refine lE (fun hc=>?_) (fun hc=>?_)
 ·have hc:k<((ns.map V.int).length:Int):=aaA hc
  obtain⟨v,e,ev⟩:=nY h0 hc
  rw[aam] at ev
  cases en:ns[k.toNat]? with
  | none=>rw[en] at ev;cases ev
  | some z=>
   rw[en] at ev
   cases ev
   unfold cellAt at q
   rw[en] at q
   exact⟨_,rfl,_,rfl,a,_,_,_,rfl,rfl,ha,e,q⟩
 ·have hc:¬k<((ns.map V.int).length:Int):=by simpa using hc
  unfold cellAt at q
  rw[Tj] at hc
  rw[List.getElem?_eq_none (by omega)] at q
  exact q
def Px:Sp:=fun vs H Q _=>∃(c k:Int),vs=[.int c,.int k]∧Q (.str (nameOf c k)) H
theorem Hi(T:Txt mg)(O:Ok K mg A):ip P w K mg base mU 1 A.yi A.yj ["cell","k"] Px:=by
 refine O.qa.f.rl jk fun js A outer s H vs Q E hr h=>?_
 obtain⟨c,k,rfl,q⟩:=h
 refine⟨_,(de (lx 2 jk i_)
   (de (lx 3 jk (gs iI f_ (gs iD (pv 0) f_)))
   (de (lx 4 jk (gs jB (pv 0) f_))
   (de (lx 5 jk (gs rA (gs rA (gs iD (gs jB (pv 0) f_) f_) (pv 1)) f_))
   (de (lx 6 jk i_)
   (de (iH aaz rfl (kK rfl T.lT (a_ (pv 3) d_)) (tM 7 jk) (fT (iy (ik mH (pv 7) (gs iD (gs jB (pv 0) f_) (pv 3)) (iE _)) (fT (lx 6 jk (gs zp (pv 6) (jS FF (pv 2) (gs iD (gs iI (pv 1) (pv 4)) f_) (fun _ _=>rfl))))) (fT (lx 6 jk (gs zp (pv 6) (jS FF (pv 2) (gs iD (gs iI (gs iI (pv 4) (gs rA f_ (pv 7))) (pv 5)) f_) (fun _ _=>rfl))))))))
   (fT (h_ (pv 6))))))))),?_⟩
 refine ZE ?_;intro _ _ _ _ _ _
 have b:=mod_lt c 12 (by decide)
 have b2:=mod_lt (c/5184) 2 (by decide)
 refine⟨_,rfl,_,_,rfl,rfl,(by show(0:Int)<12;decide),_,_,rfl,rfl,?_⟩
 refine⟨_,rfl,_,_,rfl,rfl,⟨by decide,by decide⟩,?_⟩
 refine⟨_,rfl,_,_,rfl,rfl,⟨by decide,by decide⟩,_,_,rfl,rfl,(by show(0:Int)<2;decide),_,rfl,_,_,rfl,rfl,.inl ⟨by omega,by omega⟩,_,_,rfl,rfl,.inr ⟨by decide,by decide⟩,?_⟩
 refine⟨_,rfl,_,rfl,by omega,by omega,?_⟩
 let Jv:=fun(j:Nat) (σ:St) (H2:Hp)=>∃v,σ=[ri c,ri k,rs me,ri (1+c%12),ri (c/144),ri (c/5184%2*k*7),rs (kJ c k j),v]∧H2=H
 refine mi Jv ⟨none,rfl,rfl⟩ ?_ ?_
 ·rintro j σ H2 hj ⟨v,rfl,rfl⟩
  have hlen:=(zb c k j).1
  have hz:(kJ c k j).length+1≤sizeLine:=aac (m:=13) (by omega) (by decide)
  refine⟨_,rfl,_,rfl,_,_,rfl,rfl,⟨by decide,by decide⟩,_,rfl,_,_,rfl,rfl,(by show(0:Int)<1+c%12;omega),rfl,_,rfl,?_⟩
  refine lE (fun hc=>?_) (fun hc=>?_)
  ·have hc:(0:Int)+(j:Int)=c/12%(1+c%12):=V.int.inj (aaA hc)
   obtain⟨cp,e,es,_⟩:=za (k+c/144)
   refine⟨_,rfl,_,rfl,_,rfl,_,rfl,_,_,rfl,rfl,_,_,rfl,rfl,(by show(0:Int)<36;decide),_,_,cp,rfl,rfl,by rw[Dh];decide,e,_,_,rfl,rfl,hz,some (.int (0+(j:Int))),?_,rfl⟩
   rw[kJ,aap (by omega),es]
   rfl
  ·have hc:¬(0:Int)+(j:Int)=c/12%(1+c%12):=fun z=>hc (ZF (aa4 V.int z))
   obtain⟨cp,e,es,_⟩:=za (c/144+5*(j:Int)+c/5184%2*k*7)
   refine⟨_,rfl,_,rfl,_,rfl,_,rfl,_,_,rfl,rfl,.inl ⟨by decide,by decide⟩,_,_,rfl,rfl,_,rfl,_,_,rfl,rfl,_,_,rfl,rfl,(by show(0:Int)<36;decide),_,_,cp,rfl,rfl,by rw[Dh];decide,by rw[Int.zero_add];exact e,_,_,rfl,rfl,hz,some (.int (0+(j:Int))),?_,rfl⟩
   rw[kJ,aak (by omega),es]
   rfl
 ·rintro σ H2 ⟨v,rfl,rfl⟩
  refine⟨_,rfl,?_⟩
  have:(1+c%12-0).toNat=(1+c%12).toNat:=by rw[Int.sub_zero]
  exact q
def Py:Sp:=fun vs H Q _=>∃(c k b:Int),vs=[.int c,.int k,.int b]∧0<b∧0≤k∧k≤1000∧∀x,0≤x→x<b→Q (.int x) H
theorem ML(T:Txt mg)(O:Ok K mg A):ip P w K mg base mU 1 A.yg A.yh ["cell","k","bound"] Py:=by
 refine O.BV.f.rl qD fun js A outer s H vs Q E hr h=>?_
 obtain⟨c,k,b,rfl,hb,Q9,T4,q⟩:=h
 refine⟨_,(de (lx 3 qD (gs iD (gs rA (gs iI (gs iI (gs iD (pv 0) f_) (gs rA f_ (pv 1))) f_) f_) f_))
  (de (lx 3 qD (gs iD (gs rA (gs iI (pv 3) (gs rA f_ (gs iI (pv 1) f_))) f_) f_))
  (fT (h_ (gs iD (gs jB (pv 3) f_) (pv 2)))))),?_⟩
 refine Fp ?_;intro _ _
 refine⟨_,rfl,_,_,rfl,rfl,(by show(0:Int)<2147483647;decide),_,rfl,_,_,rfl,rfl,.inl ⟨by decide,by decide⟩,_,_,rfl,rfl,_,_,rfl,rfl,_,_,rfl,rfl,.inr ⟨by decide,by decide⟩,_,_,rfl,rfl,(by show(0:Int)<2147483647;decide),?_⟩
 refine⟨_,rfl,_,rfl,_,_,rfl,rfl,_,_,rfl,rfl,.inl ⟨by decide,by decide⟩,_,_,rfl,rfl,_,_,rfl,rfl,.inr ⟨by decide,by decide⟩,_,_,rfl,rfl,(by show(0:Int)<2147483629;decide),?_⟩
 exact⟨_,rfl,_,_,rfl,rfl,⟨by decide,by decide⟩,_,rfl,_,_,rfl,rfl,hb,q _ (mod_lt _ b hb).1 (mod_lt _ b hb).2⟩
noncomputable def xl:Str:=Str.ofString " !#$&()*+,-./0123456789:;<=>?@ABCDEFGHIJKLMNOPQRSTUVWXYZ[]^_abcdefghijklmnopqrstuvwxyz{|}~"
theorem tq:xl.length=90:=by decide+kernel
def Pz:Sp:=fun vs H Q _=>∃(c:Int),vs=[.int c]∧∀x H',gm H H'→Q (.str x) H'
theorem E2:∀(xs:List Str),(∀x∈xs,x.length=1)→(xs.map (·.length)).sum=xs.length
 | [],_=>rfl
 | x::r,h=>by
  rw[aav,List.sum_cons,h x aat,E2 r fun y hy=>h y (aad _ hy),aae]
  omega
theorem MM(T:Txt mg)(O:Ok K mg A):ip P w K mg base mU 1 A.yk A.yl ["cell"] Pz:=by
 refine O.xg.f.rl lS fun js A outer s H vs Q E hr h=>?_
 obtain⟨c,rfl,q⟩:=h
 refine⟨_,(de (mV (i:=1) lS.nd rfl (Or.inr rfl) i_)
   (de (iy (ik mH (gs iD (pv 0) f_) f_ (iE _)) (fT (h_ (mD (iW (a_ i_ (a_ i_ (a_ i_ (a_ i_ d_))))) (gs iD (gs jB (pv 0) f_) f_)))) hX)
   (de (lx 2 lS (gs iD (gs jB (pv 0) f_) f_))
   (de (rF (iy (ik mH (gs iD (gs jB (pv 0) f_) f_) f_ (iE _)) (fT (lx 2 lS f_)) hX))
   (fT (h_ (qR PySem.F.plainAttrs_str PySem.F.slot_str_join PySem.F.type_str_join L5 i_ (a_ (xK xS (gc oT).names [3] rfl (kK rfl T.lT (a_ (pv 2) d_)) rfl (by decide+kernel) (fun _ _ _ _=>(iF (i:=3) lS.nd rfl (Or.inl rfl))) (fun _ _ _ _=>mj) (fun _ _ _ _=>A6 (jS FF (pv 1) (gs iD (gs iI (gs jB (pv 0) f_) (gs rA f_ (pv 3))) (gF u9 (by rfl) T.jH aay (a_ (pv 1) d_))) (fun _ _=>rfl)))) d_)))))))),?_⟩
 refine QM ?_;intro _ _ _ _
 refine⟨_,rfl,_,_,rfl,rfl,(by show(0:Int)<3;decide),rfl,_,rfl,?_⟩
 refine lE (fun _=>?_) (fun _=>?_)
 ·refine⟨j0,fun l hl=>?_⟩
  refine⟨_,rfl,_,_,rfl,rfl,⟨by decide,by decide⟩,_,_,rfl,rfl,(by show(0:Int)<4;decide),?_⟩
  have b:=mod_lt (c/3) 4 (by decide)
  obtain⟨v,e,ev⟩:=nY (xs:=[V.str (Str.ofString "a"),V.str (Str.ofString "b"),V.str (Str.ofString ""),V.str (Str.ofString " ")]) b.1 (by simpa using b.2)
  refine⟨l,_,_,v,rfl,rfl,hE.of b_,e,?_⟩
  have hv:∃x,v=V.str x:=by
   have hm:=V_ ev
   simp at hm
   rcases hm with rfl|rfl|rfl|rfl<;>exact⟨_,rfl⟩
  obtain⟨x,rfl⟩:=hv
  exact q x _ ((gm.refl H).new hl)
 ·refine⟨_,rfl,_,_,rfl,rfl,⟨by decide,by decide⟩,_,_,rfl,rfl,(by show(0:Int)<5;decide),?_⟩
  have b:=mod_lt (c/3) 5 (by decide)
  refine⟨fun σ H2=>∃(z:Int)(v:Option V),σ=[ri c,rs xl,ri z,v]∧H2=H∧0≤z∧z≤80,?_,?_⟩
  ·refine⟨_,rfl,_,_,rfl,rfl,⟨by decide,by decide⟩,_,_,rfl,rfl,(by show(0:Int)<9;decide),rfl,_,rfl,?_⟩
   refine lE (fun _=>?_) (fun _=>?_)
   ·exact⟨80,_,rfl,rfl,by decide,by decide⟩
   ·exact⟨_,_,rfl,rfl,b.1,by omega⟩
  ·rintro σ H2 ⟨z,v,rfl,rfl,z0,z1⟩
   refine⟨rfl,_,rfl,_,rfl,by omega,by omega,?_⟩
   let Jv:=fun(m:Nat) (ys:List V) (σ:St) (H3:Hp)=>∃(v:Option V)(xs:List Str),σ=[ri c,rs xl,ri z,v]∧H3=H2∧ys=gp xs∧xs.length=m∧∀x∈xs,x.length=1
   refine rE (by have:sizeLine=2 ^ 24:=rfl;omega) Jv
    ⟨none,[],rfl,rfl,rfl,rfl,fun x hx=>nomatch hx⟩ (by rintro _ _ _ _ ⟨_,xs,_,_,e,e2,_⟩;rw[e,Tj];omega) ?_ ?_
   ·rintro m ys σ H3 hm ⟨v,xs,rfl,rfl,rfl,hx,h1⟩
    refine⟨_,rfl,_,rfl,_,_,rfl,rfl,⟨by decide,by decide⟩,_,rfl,_,_,rfl,rfl,.inl ⟨by decide,by decide⟩,_,_,rfl,rfl,_,rfl,_,rfl,by rw[tq];decide,_,_,rfl,rfl,(by show(0:Int)<(xl.length:Int);rw[tq];decide),?_⟩
    have b:=mod_lt (c/45+7*(0+(m:Int))) (xl.length:Int) (by rw[tq];decide)
    obtain⟨cp,e,_⟩:=nY (xs:=xl.cps.toList) b.1 (by rw[abh];exact b.2)
    refine⟨_,_,cp,rfl,rfl,by rw[tq];decide,e,?_⟩
    refine⟨_,xs++[⟨#[cp]⟩],rfl,rfl,jg _ _,by rw[ZD,hx];rfl,fun x Ud=>?_⟩
    rcases W9.mp Ud with Ud|Ud
    ·exact h1 x Ud
    ·rw[Tq.mp Ud];rfl
   ·rintro ys σ H3 ⟨v,xs,rfl,rfl,rfl,hx,h1⟩ p hp
    refine⟨_,p,xs,rfl,rfl,hE.of b_,?_,?_⟩
    ·rw[E2 xs h1]
     have:(Str.ofString "").length=0:=by decide+kernel
     rw[this]
     omega
    ·exact q _ _ ((gm.refl H3).new hp)
theorem vZ(l:List Str)(k:Nat):u5 (gp l) none (some (k:Int))=gp (l.take k):=by
 unfold u5
 rw[HT.D_,HT.GU,Nat.sub_zero,List.drop_zero]
 unfold gp
 rw[Tj,←List.map_take]
 congr 1
 by_cases h:k≤l.length
 ·rw[Nat.min_eq_left h]
 ·rw[Nat.min_eq_right (by omega),List.take_of_length_le (ZA _),List.take_of_length_le (by omega)]
theorem E3(l:List Str)(k:Nat):u5 (gp l) (some (k:Int)) none=gp (l.drop k):=by
 unfold u5
 rw[HT.D_,HT.GU,List.take_of_length_le (by rw[List.length_drop];exact ZA _)]
 unfold gp
 rw[Tj,←List.map_drop]
 congr 1
 by_cases h:k≤l.length
 ·rw[Nat.min_eq_left h]
 ·rw[Nat.min_eq_right (by omega),List.drop_of_length_le (ZA _),List.drop_of_length_le (by omega)]
theorem xm(l:List Str){z:Int}{k:Nat}(h:z=(k:Int)):u5 (gp l) (some z) none=gp (l.drop k):=by rw[h,E3]
structure Gq(ts LI:List Str):Prop where
 ne:ts≠LI
 len:LI.length≤ts.length+3
 near:LI.length≤K01.lcs ts LI+3
theorem Aw{x y s:List Str}(h1:s.Sublist x)(h2:s.Sublist y):s.length≤K01.lcs x y:=(K01.j3 x y).1 s h1 h2
theorem Dl{ts LI:List Str}(h:ts.length≠LI.length):ts≠LI:=fun z=>h (aa4 List.length z)
theorem Ir(ts:List Str)(k:Nat)(x:Str):Gq ts (ts.take k++[x]++ts.drop k):=by
 have hl:(ts.take k++[x]++ts.drop k).length=ts.length+1:=by simp;omega
 have hs:ts.Sublist (ts.take k++[x]++ts.drop k):=by
  conv=>lhs;rw[←aby k ts]
  rw[aaw]
  exact(aaH _).append (aa3 _ _)
 have:=Aw (aaH ts) hs
 exact⟨Dl (by omega),by omega,by omega⟩
theorem KL(ts:List Str)(k:Nat)(h:k<ts.length):Gq ts (ts.take k++ts.drop (k+1)):=by
 have hl:(ts.take k++ts.drop (k+1)).length=ts.length-1:=by simp;omega
 have hs:(ts.take k++ts.drop (k+1)).Sublist ts:=by
  conv=>rhs;rw[←aby k ts]
  refine(aaH _).append ?_
  rw[aaQ h]
  exact abq _ _
 have:=Aw hs (aaH _)
 exact⟨Dl (by omega),by omega,by omega⟩
theorem Gr(ts:List Str)(k:Nat)(x:Str)(h:k<ts.length)(hx:ts[k]≠x):Gq ts (ts.take k++[x]++ts.drop (k+1)):=by
 have hl:(ts.take k++[x]++ts.drop (k+1)).length=ts.length:=by simp;omega
 have hs:(ts.take k++ts.drop (k+1)).Sublist ts:=by
  conv=>rhs;rw[←aby k ts]
  refine(aaH _).append ?_
  rw[aaQ h]
  exact abq _ _
 have IU:(ts.take k++ts.drop (k+1)).Sublist (ts.take k++[x]++ts.drop (k+1)):=by
  rw[aaw]
  exact(aaH _).append (aa3 _ _)
 have:=Aw hs IU
 have K9:(ts.take k++ts.drop (k+1)).length=ts.length-1:=by simp;omega
 refine⟨fun z=>hx ?_,by omega,by omega⟩
 have e:ts[k]?=(ts.take k++[x]++ts.drop (k+1))[k]?:=by rw[←z]
 rw[aaw,aba (by rw[aaD];omega),aaD,show k-min k ts.length=0 by omega,Wd h] at e
 exact aau e
theorem Gs(ts:List Str)(k:Nat)(x y z:Str):Gq ts ([x]++(ts.take k++[y]++ts.drop k)++[z]):=by
 have hl:([x]++(ts.take k++[y]++ts.drop k)++[z]).length=ts.length+3:=by simp;omega
 have hs:ts.Sublist ([x]++(ts.take k++[y]++ts.drop k)++[z]):=by
  refine List.Sublist.trans ?_ (List.sublist_append_left _ _)
  refine List.Sublist.trans ?_ (aa3 _ _)
  conv=>lhs;rw[←aby k ts]
  rw[aaw]
  exact(aaH _).append (aa3 _ _)
 have:=Aw (aaH ts) hs
 exact⟨Dl (by omega),by omega,by omega⟩
theorem Iu(ts:List Str)(k:Nat)(x y z:Str)(h:k+1<ts.length):Gq ts (ts.take k++[x,y,z]++ts.drop (k+2)):=by
 have hl:(ts.take k++[x,y,z]++ts.drop (k+2)).length=ts.length+1:=by simp;omega
 have hs:(ts.take k++ts.drop (k+2)).Sublist ts:=by
  conv=>rhs;rw[←aby k ts]
  refine(aaH _).append ?_
  exact K01.zK (by omega)
 have IU:(ts.take k++ts.drop (k+2)).Sublist (ts.take k++[x,y,z]++ts.drop (k+2)):=by
  rw[aaw]
  exact(aaH _).append (aa3 _ _)
 have:=Aw hs IU
 have K9:(ts.take k++ts.drop (k+2)).length=ts.length-2:=by simp;omega
 exact⟨Dl (by omega),by omega,by omega⟩
def PB:Sp:=fun vs H Q _=>∃(t:Addr)(ts:List Str)(c:Int),vs=[.ref t,.int c]∧H t=some (.lst (gp ts))∧ts.length≤900∧∀p H' LI,gm H H'→H' p=some (.lst (gp LI))→Gq ts LI→Q (.ref p) H'
theorem Hj(T:Txt mg)(O:Ok K mg A):ip P w K mg base mU 2 A.ym A.yp ["texts","cell"] PB:=by
 have yE:=@MM P w K mg base A T O
 refine O.xh.f.rl j5 fun js A outer s H vs Q E hr h=>?_
 obtain⟨t,ts,c,rfl,ht,hl,q⟩:=h
 have sz:sizeLine=16777216:=aaB
 have et:((gp ts).length:Int)=(ts.length:Int):=by simp
 refine⟨_,(de (lx 2 j5 (gs iD (gs jB (pv 1) f_) (gs iI (gF gz (by rfl) T.jH aay (a_ (pv 0) d_)) f_)))
   (de (lx 3 j5 (ml O.xg yE hr (a_ (gs jB (pv 1) f_) d_)))
   (de (lx 4 j5 (gs mW (gs mW (mI oK (pv 0) oI (oJ (pv 2))) (iW (a_ (pv 3) d_))) (mI oK (pv 0) (oJ (pv 2)) oI)))
   (de (lx 5 j5 (gs iD (pv 1) f_))
   (de (rF (iy ((pw_and (ik mH (pv 5) f_ (iE _)) (pw_and1 (ik D1 (gF gz (by rfl) T.jH aay (a_ (pv 0) d_)) f_ (iE _)))).pt) (de (lx 6 j5 (gs iD (pv 2) (gF gz (by rfl) T.jH aay (a_ (pv 0) d_))))
   (fT (h_ (gs mW (mI oK (pv 0) oI (oJ (pv 6))) (mI oK (pv 0) (oJ (gs iI (pv 6) f_)) oI))))) hX))
   (de (rF (iy ((pw_and (ik mH (pv 5) f_ (iE _)) (pw_and (ik GO (pv 2) (gF gz (by rfl) T.jH aay (a_ (pv 0) d_)) (iE _)) (pw_and1 (ik GN (mD (pv 0) (pv 2)) (pv 3) (iE _))))).pt) (fT (h_ (gs mW (gs mW (mI oK (pv 0) oI (oJ (pv 2))) (iW (a_ (pv 3) d_))) (mI oK (pv 0) (oJ (gs iI (pv 2) f_)) oI)))) hX))
   (de (rF (iy (ik mH (pv 5) f_ (iE _)) (fT (h_ (gs mW (gs mW (iW (a_ (pv 3) d_)) (pv 4)) (iW (a_ (ml O.xg yE hr (a_ (gs jB (pv 1) f_) d_)) d_))))) hX))
   (de (rF (iy ((pw_and (ik mH (pv 5) f_ (iE _)) (pw_and1 (ik GO (gs iI (pv 2) f_) (gF gz (by rfl) T.jH aay (a_ (pv 0) d_)) (iE _)))).pt) (de (lx 7 j5 (iW (a_ (mD (pv 0) (gs iI (pv 2) f_)) (a_ (pv 3) (a_ (mD (pv 0) (pv 2)) d_)))))
   (fT (h_ (gs mW (gs mW (mI oK (pv 0) oI (oJ (pv 2))) (pv 7)) (mI oK (pv 0) (oJ (gs iI (pv 2) f_)) oI))))) hX))
   (fT (h_ (pv 4))))))))))),?_⟩
 refine sl9 ?_;intro _ _ _ _ _ _ _ _
 refine⟨_,rfl,_,_,rfl,rfl,⟨by decide,by decide⟩,_,rfl,t,_,rfl,.inl (hE.of ht),_,_,rfl,rfl,_,_,rfl,rfl,(by rw[et];omega),?_⟩
 rw[et]
 have b:=mod_lt (c/5) ((ts.length:Int)+1) (by omega)
 obtain⟨k,hk⟩:∃k:Nat,c/5%((ts.length:Int)+1)=(k:Int):=⟨_,(Int.toNat_of_nonneg b.1).symm⟩
 dsimp only
 rw[hk]
 have IY:k≤ts.length:=by omega
 refine⟨_,rfl,_,_,rfl,rfl,⟨by decide,by decide⟩,c/30,rfl,fun x H1 s1=>?_⟩
 have Z6:=s1 _ _ ht
 refine⟨_,rfl,_,rfl,_,rfl,t,_,rfl,hE.of Z6,fun a ha=>?_⟩
 rw[vZ]
 have s2:=s1.new (o:=.lst (gp (ts.take k))) ha
 have h2a:(upd H1 a (.lst (gp (ts.take k)))) a=some (.lst (gp (ts.take k))):=b_
 generalize upd H1 a (.lst (gp (ts.take k)))=H2 at s2 h2a
 refine⟨_,rfl,L2.j0,fun b0 N1=>?_⟩
 have s3:=s2.new (o:=.lst [V.str x]) N1
 refine⟨a,b0,_,_,rfl,rfl,il N1 h2a,b_,by simp;omega,fun d hd=>?_⟩
 have s4:=s3.new (o:=.lst (gp (ts.take k)++[V.str x])) hd
 have h4d:(upd (upd H2 b0 (.lst [V.str x])) d (.lst (gp (ts.take k)++[V.str x]))) d=some (.lst (gp (ts.take k++[x]))):=by rw[b_,jg]
 generalize upd (upd H2 b0 (.lst [V.str x])) d (.lst (gp (ts.take k)++[V.str x]))=H4 at s4 h4d
 refine⟨_,rfl,_,rfl,_,rfl,t,_,rfl,hE.of (s4 _ _ ht),fun e he=>?_⟩
 rw[E3]
 have s5:=s4.new (o:=.lst (gp (ts.drop k))) he
 refine⟨d,e,_,_,rfl,rfl,il he h4d,b_,by simp;omega,fun m hm=>?_⟩
 have s6:=s5.new (o:=.lst (gp (ts.take k++[x])++gp (ts.drop k))) hm
 have Ye:(upd (upd H4 e (.lst (gp (ts.drop k)))) m (.lst (gp (ts.take k++[x])++gp (ts.drop k)))) m=some (.lst (gp (ts.take k++[x]++ts.drop k))):=by rw[b_,mL]
 generalize upd (upd H4 e (.lst (gp (ts.drop k)))) m (.lst (gp (ts.take k++[x])++gp (ts.drop k)))=H6 at s6 Ye
 have IP:=s6 _ _ ht
 refine⟨_,rfl,_,_,rfl,rfl,(by show(0:Int)<5;decide),?_⟩
 refine⟨fun σ H7=>σ=[rr t,ri c,ri k,rs x,rr m,ri (c%5),none,none]∧H7=H6,?_,?_⟩
 ·refine⟨_,rfl,rfl,_,rfl,?_⟩
  refine lE (fun _=>?_) (fun _=>jz ⟨rfl,rfl⟩)
  refine⟨_,rfl,t,_,rfl,.inl (hE.of IP),_,_,rfl,rfl,_,rfl,?_⟩
  refine lE (fun h1=>?_) (fun _=>⟨rfl,rfl⟩)
  have h1:0<ts.length:=by have:=aaA h1;rw[et] at this;omega
  refine⟨_,rfl,_,rfl,t,_,rfl,.inl (hE.of IP),_,_,rfl,rfl,(by rw[et];omega),?_⟩
  have b2:=mod_lt (k:Int) (ts.length:Int) (by omega)
  obtain⟨o,ho⟩:∃o:Nat,(k:Int)%(ts.length:Int)=(o:Int):=⟨_,(Int.toNat_of_nonneg b2.1).symm⟩
  rw[et]
  dsimp only
  rw[ho]
  refine⟨_,rfl,_,rfl,_,rfl,t,_,rfl,hE.of IP,fun a ha=>?_⟩
  have s7:=s6.new (o:=.lst (u5 (gp ts) none (some (o:Int)))) ha
  refine⟨_,rfl,_,rfl,_,_,rfl,rfl,_,rfl,t,_,rfl,hE.of (s7 _ _ ht),fun e he=>?_⟩
  have s8:=s7.new (o:=.lst (u5 (gp ts) (some ((o:Int)+1)) none)) he
  refine⟨a,e,gp (ts.take o),gp (ts.drop (o+1)),rfl,rfl,il he (by rw[b_,vZ]),by rw[b_,xm ts (k:=o+1) (by omega)],by simp;omega,fun p hp=>?_⟩
  refine q p _ _ (s8.new hp) ?_ (KL ts o (by omega))
  rw[b_,mL]
 rintro σ H7 ⟨rfl,rfl⟩
 refine⟨fun σ H8=>σ=[rr t,ri c,ri k,rs x,rr m,ri (c%5),none,none]∧H8=H7,?_,?_⟩
 ·refine⟨_,rfl,rfl,_,rfl,?_⟩
  refine lE (fun _=>?_) (fun _=>jz ⟨rfl,rfl⟩)
  refine⟨_,rfl,_,rfl,t,_,rfl,.inl (hE.of IP),_,_,rfl,rfl,_,rfl,?_⟩
  refine lE (fun h1=>?_) (fun _=>jz ⟨rfl,rfl⟩)
  have h1:k<ts.length:=by have:=aaA h1;rw[et] at this;omega
  have hx:ts[k]?=some ts[k]:=Wd h1
  refine⟨_,rfl,_,rfl,t,_,_,_,rfl,rfl,hE.of IP,gH rfl (oO hx),_,rfl,rfl,_,rfl,?_⟩
  refine lE (fun h2=>?_) (fun _=>⟨rfl,rfl⟩)
  have h2:ts[k]≠x:=fun z=>by rw[z] at h2;simp at h2
  refine⟨_,rfl,_,rfl,_,rfl,t,_,rfl,hE.of IP,fun a ha=>?_⟩
  have s7:=s6.new (o:=.lst (u5 (gp ts) none (some (k:Int)))) ha
  rw[vZ] at s7 ⊢
  refine⟨_,rfl,L2.j0,fun b0 N1=>?_⟩
  have s8:=s7.new (o:=.lst [V.str x]) N1
  refine⟨a,b0,_,_,rfl,rfl,il N1 b_,b_,by simp;omega,fun d hd=>?_⟩
  have s9:=s8.new (o:=.lst (gp (ts.take k)++[V.str x])) hd
  refine⟨_,rfl,_,rfl,_,_,rfl,rfl,_,rfl,t,_,rfl,hE.of (s9 _ _ ht),fun e he=>?_⟩
  have GA:=s9.new (o:=.lst (u5 (gp ts) (some ((k:Int)+1)) none)) he
  refine⟨d,e,_,gp (ts.drop (k+1)),rfl,rfl,il he b_,by rw[b_,xm ts (k:=k+1) (by omega)],by simp;omega,fun p hp=>?_⟩
  refine q p _ _ (GA.new hp) ?_ (Gr ts k x h1 h2)
  rw[b_,jg,mL]
 rintro σ H8 ⟨rfl,rfl⟩
 refine⟨fun σ H9=>σ=[rr t,ri c,ri k,rs x,rr m,ri (c%5),none,none]∧H9=H8,?_,?_⟩
 ·refine⟨_,rfl,rfl,_,rfl,?_⟩
  refine lE (fun _=>?_) (fun _=>⟨rfl,rfl⟩)
  refine⟨_,rfl,L2.j0,fun a ha=>?_⟩
  have s7:=s6.new (o:=.lst [V.str x]) ha
  refine⟨_,rfl,a,m,_,_,rfl,rfl,b_,il ha Ye,by simp;omega,fun b0 N1=>?_⟩
  have s8:=s7.new (o:=.lst ([V.str x]++gp (ts.take k++[x]++ts.drop k))) N1
  refine⟨_,rfl,_,_,rfl,rfl,⟨by decide,by decide⟩,c/60,rfl,fun y H9 s9=>⟨L2.j0,fun d hd=>?_⟩⟩
  have GA:=(s8.trans s9).new (o:=.lst [V.str y]) hd
  refine⟨b0,d,_,_,rfl,rfl,il hd (s9 _ _ b_),b_,by simp;omega,fun p hp=>?_⟩
  refine q p _ _ (GA.new hp) ?_ (Gs ts k x x y)
  rw[b_]
  simp[gp]
 rintro σ H9 ⟨rfl,rfl⟩
 refine⟨fun σ Qv=>σ=[rr t,ri c,ri k,rs x,rr m,ri (c%5),none,none]∧Qv=H9,?_,?_⟩
 ·refine⟨_,rfl,rfl,_,rfl,?_⟩
  refine lE (fun _=>?_) (fun _=>jz ⟨rfl,rfl⟩)
  refine⟨_,rfl,_,_,rfl,rfl,_,rfl,t,_,rfl,.inl (hE.of IP),_,_,rfl,rfl,_,rfl,?_⟩
  refine lE (fun h1=>?_) (fun _=>⟨rfl,rfl⟩)
  have h1:k+1<ts.length:=by have:=aaA h1;rw[et] at this;omega
  have hx:ts[k]?=some ts[k]:=Wd (by omega)
  have hy:ts[k+1]?=some ts[k+1]:=Wd h1
  refine⟨_,rfl,_,rfl,_,_,rfl,rfl,t,_,_,_,rfl,rfl,hE.of IP,gH (j:=k+1) (by omega) (oO hy),_,rfl,_,rfl,_,rfl,t,_,_,_,rfl,rfl,hE.of IP,gH rfl (oO hx),L2.j0,fun u hu=>?_⟩
  have s7:=s6.new (o:=.lst [V.str ts[k+1],V.str x,V.str ts[k]]) hu
  have h7u:(upd H9 u (.lst [V.str ts[k+1],V.str x,V.str ts[k]])) u=some (.lst (gp [ts[k+1],x,ts[k]])):=b_
  generalize upd H9 u (.lst [V.str ts[k+1],V.str x,V.str ts[k]])=Vm at s7 h7u
  refine⟨_,rfl,_,rfl,_,rfl,t,_,rfl,hE.of (s7 _ _ ht),fun a ha=>?_⟩
  rw[vZ]
  have s8:=s7.new (o:=.lst (gp (ts.take k))) ha
  refine⟨_,rfl,a,u,_,_,rfl,rfl,b_,il ha h7u,by simp;omega,fun d hd=>?_⟩
  have s9:=s8.new (o:=.lst (gp (ts.take k)++gp [ts[k+1],x,ts[k]])) hd
  refine⟨_,rfl,_,rfl,_,_,rfl,rfl,_,rfl,t,_,rfl,hE.of (s9 _ _ ht),fun e he=>?_⟩
  have GA:=s9.new (o:=.lst (u5 (gp ts) (some ((k:Int)+2)) none)) he
  refine⟨d,e,_,gp (ts.drop (k+2)),rfl,rfl,il he b_,by rw[b_,xm ts (k:=k+2) (by omega)],by simp;omega,fun p hp=>?_⟩
  refine q p _ _ (GA.new hp) ?_ (Iu ts k ts[k+1] x ts[k] h1)
  rw[b_,mL,mL]
 rintro σ Qv ⟨rfl,rfl⟩
 exact⟨_,rfl,q m _ _ s6 Ye (Ir ts k x)⟩
structure Sz(k:Nat)(D:Dk):Prop where
 many:D.made.length≤k
 ir:(D.made.flatMap (·.ir)).length≤3*k
 i3:(D.made.flatMap (·.i3)).length≤3*(k*k)
theorem Hk(k:Nat):(k+1)*(k+1)=k*k+2*k+1:=by simp only [Nat.mul_add,Nat.add_mul];omega
theorem Sz.up{k:Nat}{D:Dk}(z:Sz k D):Sz (k+1) D:=⟨Nat.le_succ_of_le z.many,by have:=z.ir;omega,by have:=z.i3;have:=Hk k;omega⟩
theorem Sz.keep{k:Nat}{D:Dk}(z:Sz k D)(s:Str){p:Pt}(hp:p.ir.length≤3)(hc:p.i3.length≤3*k+3):Sz (k+1) (D.keep s p):=by
 refine⟨?_,?_,?_⟩
 ·show(D.made++[p]).length≤_
  rw[ZD];have:=z.many;show _+1≤_;omega
 ·show((D.made++[p]).flatMap (·.ir)).length≤_
  rw[abk,ZD,aaJ,abC,aaa];have:=z.ir;omega
 ·show((D.made++[p]).flatMap (·.i3)).length≤_
  rw[abk,ZD,aaJ,abC,aaa];have:=z.i3;have:=Hk k;omega
theorem Sz.small{k:Nat}{D:Dk}(z:Sz k D)(h:k≤36):Small D.made:=by
 have h2:k*k≤36*36:=Nat.mul_le_mul h h
 exact⟨aac z.many (by omega),aac z.ir (by omega),aac z.i3 (by omega)⟩
theorem Sz.row{k:Nat}{D:Dk}(z:Sz k D)(I:Inv D)(s f:Str):(D.row s f).length≤3*k:=aac (I.vj s f) z.ir
theorem uH(D:Dk)(s:Str)(p:Pt):(D.keep s p).names=D.names++[p.nm]:=by
 show(D.made++[p]).map (·.nm)=_
 rw[aar];rfl
theorem B9{x f:Str}{row:List Ln}{texts:List Str}(e:Gq (row.map (·.tx)) texts):(kc x f row texts).ir.length≤3:=by
 have rise:=pP (row.map (·.tx)) texts
 rw[Tj] at rise
 have h:=G1 rise x
 rw[K01.xM] at h
 have:=e.near
 show(jD x texts _).length≤3
 omega
theorem pick{xs:List Str}{i:Int}(h0:0≤i)(h:i<(xs.length:Int)):∃x,AZ (gp xs) i=some (V.str x)∧x∈xs:=by
 obtain⟨v,e,ev⟩:=nY (xs:=gp xs) h0 (by simpa using h)
 obtain⟨x,hx,rfl⟩:=lb ev
 exact⟨x,e,V_ hx⟩
def PD(A:Ad):Sp:=fun vs H Q _=>∃(d ss fs:Addr)(D:Dk)(W:Addr→Prop)(k:Nat)(stores files:List Str)(c:Int)(x:Str)(b:Bool),vs=[.ref d,.ref ss,.ref fs,.int c,.str x,.bl b]∧ia A H d D W∧Inv D∧Sz k D∧k<36∧
 H ss=some (.lst (gp stores))∧stores≠[]∧stores.length≤1000∧(∀s∈stores,s∈D.stores∧kI s)∧H fs=some (.lst (gp files))∧files≠[]∧files.length≤1000∧(∀f∈files,Good f)∧Good x∧x∉D.names∧(∀z∈D.names,kI z)∧
 ∀H' D',ia A H' d D' W→lZ W H H'→Inv D'→Sz (k+1) D'→D'.stores=D.stores→(D'.names=D.names∨D'.names=D.names++[x])→Q .jo H'
theorem MN(T:Txt mg)(O:Ok K mg A):ip P w K mg base mU 7 A.yq A.yr ["desk","stores","files","cell","name","backs"] (PD A):=by
 have oz:=(@Gm P w K mg base A T O).DR
 have jP:=(@Gk P w K mg base A T O).DR
 have mS:=(@Hc P w K mg base A T O).DR
 have Fh:=(@MH P w K mg base A T O).DR
 have pd:=(@G_ P w K mg base A T O).DR
 have kj:=(@sN P w K mg base A T O).DR
 have pE:=(@B8 P w K mg base A T O).DR
 have uK:=(@KH P w K mg base A T O).DR
 have sT:=@Hj P w K mg base A T O
 refine O.BW.f.rl jl fun js A0 outer s H vs Q E hr h=>?_
 obtain⟨d,ss,fs,D,W,k,stores,files,c,x,bk,rfl,X,I,z,hk,QA,hs0,UT,lG,yD,hf0,hfl,hfg,gx,hx,NL,q⟩:=h
 obtain⟨π,y⟩:=id X
 have sz:sizeLine=16777216:=aaB
 have sm:=z.small (by omega)
 have j0:wy D.made.length:=sm.many
 have yT:D.made.length≤4000:=j0
 have es:((gp stores).length:Int)=(stores.length:Int):=by simp
 have ef:((gp files).length:Int)=(files.length:Int):=by simp
 have WT:0<stores.length:=List.length_pos_iff.mpr hs0
 have hf1:0<files.length:=List.length_pos_iff.mpr hf0
 refine⟨_,(de (lx 6 jl (mD (pv 1) (gs iD (pv 3) (gF gz (by rfl) T.jH aay (a_ (pv 1) d_)))))
   (de (lx 7 jl (mD (pv 2) (gs iD (gs jB (pv 3) f_) (gF gz (by rfl) T.jH aay (a_ (pv 2) d_)))))
   (de (lx 8 jl (gs iD (gs jB (pv 3) f_) f_))
   (de (lx 9 jl (gs jB (pv 3) f_))
   (de (zx (j:=10) xT (gc oU).names [13] jl.nd rfl rfl rfl (iq (uS (pv 0) O.gC O.vQ oz hr (a_ (pv 6) (a_ (pv 7) d_)))) rfl (by decide+kernel) (fun _ _ _ _=>(iF (i:=13) jl.nd rfl (Or.inl rfl))) (fun _ _ _ _=>mj) (fun _ _ _ _=>A6 (jS nU (pv 13) f_ (fun _ _=>rfl))))
   (fT (iy (JZ ((pw_and (ik mH (pv 8) f_ (iE _)) (pw_and (mf (pv 5)) (pw_and1 (ik D1 (gF gz (by rfl) T.jH aay (a_ (uS (pv 0) O.gC O.lX jP hr (a_ (pv 6) d_)) d_)) f_ (iE _))))).pt)) (fT (g_ (uS (pv 0) O.gC O.p_ mS hr (a_ (pv 6) (a_ (pv 4) (a_ (mD (uS (pv 0) O.gC O.lX jP hr (a_ (pv 6) d_)) (gs iD (pv 9) (gF gz (by rfl) T.jH aay (a_ (uS (pv 0) O.gC O.lX jP hr (a_ (pv 6) d_)) d_)))) d_)))))) (fT (iy (JZ ((pw_and (ik mH (pv 8) f_ (iE _)) (pw_and (ik mH (gs iD (pv 9) f_) f_ (iE _)) (pw_and1 (ik D1 (gF gz (by rfl) T.jH aay (a_ (uS (pv 0) O.gC O.lX jP hr (a_ (pv 6) d_)) d_)) f_ (iE _))))).pt)) (fT (g_ (uS (pv 0) O.gC O.BU Fh hr (a_ (pv 6) (a_ (mD (uS (pv 0) O.gC O.lX jP hr (a_ (pv 6) d_)) (xD rB f_)) d_))))) (fT (iy (ik D1 (pv 8) f_ (iE _)) (de (lx 11 jl (mD (pv 1) (gs iD (pv 9) (gF gz (by rfl) T.jH aay (a_ (pv 1) d_)))))
   (de (lx 12 jl (uS (pv 0) O.gC O.lX jP hr (a_ (pv 11) d_)))
   (fT (iy (ik D1 (gF gz (by rfl) T.jH aay (a_ (pv 12) d_)) f_ (iE _)) (fT (g_ (uS (pv 0) O.gC O.sZ pd hr (a_ (pv 6) (a_ (pv 11) (a_ (mD (pv 12) (gs iD (gs jB (pv 9) f_) (gF gz (by rfl) T.jH aay (a_ (pv 12) d_)))) d_)))))) hX)))) (fT (iy (ik mH (gF gz (by rfl) T.jH aay (a_ (uS (pv 0) O.gC O.mG kj hr (a_ (pv 6) (a_ (pv 7) d_))) d_)) f_ (iE _)) (fT (g_ (uS (pv 0) O.gC O.sy pE hr (a_ (pv 6) (a_ (pv 4) (a_ (pv 7) (a_ (ml O.xh sT hr (a_ (pv 10) (a_ (pv 9) d_))) d_))))))) (fT (g_ (uS (pv 0) O.gC O.Aj uK hr (a_ (pv 6) (a_ (pv 4) (a_ (pv 7) (a_ (iW (a_ (gs iD (pv 9) (gF gz (by rfl) T.jH aay (a_ (pv 10) d_))) d_)) d_)))))))))))))))))))),?_⟩
 refine RU ?_;intro _ _ _ _ _
 have b1:=mod_lt c (stores.length:Int) (by omega)
 obtain⟨st,Yf,M7⟩:=pick (xs:=stores) b1.1 b1.2
 have b2:=mod_lt (c/7) (files.length:Int) (by omega)
 obtain⟨f,Ft,hf2⟩:=pick (xs:=files) b2.1 b2.2
 obtain⟨xx,Ck⟩:=lG st M7
 have gf:=hfg f hf2
 refine⟨_,rfl,_,rfl,_,rfl,ss,_,rfl,.inl (hE.of QA),_,_,rfl,rfl,(by rw[es];omega),ss,_,_,_,rfl,rfl,hE.of QA,(by rw[es];exact Yf),?_⟩
 refine⟨_,rfl,_,rfl,_,_,rfl,rfl,⟨by decide,by decide⟩,_,rfl,fs,_,rfl,.inl (hE.of yD),_,_,rfl,rfl,(by rw[ef];omega),fs,_,_,_,rfl,rfl,hE.of yD,(by rw[ef];exact Ft),?_⟩
 refine⟨_,rfl,_,_,rfl,rfl,⟨by decide,by decide⟩,_,_,rfl,rfl,(by show(0:Int)<6;decide),?_⟩
 refine⟨_,rfl,_,_,rfl,rfl,⟨by decide,by decide⟩,?_⟩
 refine⟨_,rfl,d,π.dx,_,rfl,y.hd,Gj,_,rfl,_,rfl,d,D,W,st,f,rfl,X,Ck,sm,I,fun h=>absurd xx h,fun _ r H1 s1 sS ⟨vs,A2,Dt⟩=>?_⟩
 have Fb:=z.row I st f
 have Yg:=aaq Dt
 let Jv:=fun(i:Nat) (ys:List V) (σ:St) (H4:Hp)=>∃(IQ:Option V),σ=[rr d,rr ss,rr fs,ri c,rs x,some (.bl bk),rs st,rs f,ri (c/11%6),ri (c/66),none,none,none,IQ]∧H4=H1∧ys=gp (((D.row st f).take i).map (·.tx))
 refine⟨r,rfl,⟨_,hE.of A2⟩,kx (K:=K) (a:=r) (xs:=vs) (by omega) Jv
  ⟨none,rfl,rfl,rfl⟩ (by rintro _ _ _ _ _ ⟨_,_,e,e2⟩;rw[e,e2];exact⟨hE.of A2,by rw[Tj,Tj,aaD];omega⟩) ?_ ?_⟩
 ·rintro i v ys σ H4 hx ⟨IQ,rfl,rfl,rfl⟩
  obtain⟨ln,uJ,t,rfl,ht⟩:=iw Dt hx
  refine⟨_,rfl,t,_,_,_,rfl,rfl,rn.of ht,gH (j:=2) rfl rfl,_,rfl,rfl,?_⟩
  rw[take_snoc uJ,aar,jg]
  rfl
 rintro ys σ H4 ⟨IQ,rfl,rfl,rfl⟩ Lp Qj
 rw[Yg,aas]
 have s2:=s1.new (o:=.lst (gp ((D.row st f).map (·.tx)))) Qj
 have Lq:(upd H4 Lp (.lst (gp ((D.row st f).map (·.tx))))) Lp=some (.lst (gp ((D.row st f).map (·.tx)))):=b_
 generalize upd H4 Lp (.lst (gp ((D.row st f).map (·.tx))))=H2 at s2 Lq
 have X2:=X.same s2
 have AF:(((D.row st f).map (·.tx)).length:Int)=((D.row st f).length:Int):=by rw[Tj]
 have el:∀l:List Str,((gp l).length:Int)=(l.length:Int):=fun l=>by simp
 have hasB:∀u,(D.has u).length≤D.made.length:=fun u=>by
  rw[Dk.G2,Tj];exact aaN _ _
 have QB:∀u,∀v∈D.has u,v∈D.held u∧v∈D.names:=fun u v hv=>by
  obtain⟨h1,h2⟩:=ZH.mp hv
  exact⟨aaA h2,h1⟩
 refine⟨fun b H3=>gm H2 H3∧(b=true→D.has st≠[]),?_,?_⟩
 ·refine⟨_,rfl,rfl,_,rfl,?_⟩
  refine lE (fun _=>?_) (fun _=>⟨gm.refl _,fun z=>by cases z⟩)
  refine⟨_,rfl,_,rfl,?_⟩
  refine lE (fun _=>?_) (fun _=>⟨gm.refl _,fun z=>by cases z⟩)
  refine⟨_,rfl,d,π.dx,_,rfl,s2 _ _ y.hd,sL,_,rfl,d,D,W,st,rfl,X2,Ck,j0,fun h=>absurd xx h,fun _ p tE=>?_⟩
  refine⟨p,_,rfl,.inl (hE.of b_),_,_,rfl,rfl,_,rfl,(gm.refl H2).new tE,fun h e=>?_⟩
  rw[e] at h
  exact absurd (aaA h) (by decide)
 rintro b H3 ⟨s23,hb⟩
 have s3:=s2.trans s23
 have X3:=X.same s3
 cases b with
 | true=>
  have oy:=hb rfl
  have hpos:0<(D.has st).length:=List.length_pos_iff.mpr oy
  refine l7 ?_
  refine⟨_,rfl,d,π.dx,_,rfl,s3 _ _ y.hd,y_,_,rfl,_,rfl,_,rfl,d,π.dx,_,rfl,s3 _ _ y.hd,sL,_,rfl,d,D,W,st,rfl,X3,Ck,j0,fun h=>absurd xx h,fun _ p tE=>?_⟩
  have s4:=s3.new (o:=.lst (gp (D.has st))) tE
  refine⟨_,rfl,_,rfl,d,π.dx,_,rfl,s4 _ _ y.hd,sL,_,rfl,d,D,W,st,rfl,X.same s4,Ck,j0,fun h=>absurd xx h,fun _ p2 zf=>?_⟩
  have s5:=s4.new (o:=.lst (gp (D.has st))) zf
  have b3:=mod_lt (c/66) ((D.has st).length:Int) (by omega)
  obtain⟨o,eo,ho⟩:=pick (xs:=D.has st) b3.1 b3.2
  obtain⟨Vn,Vo⟩:=QB st o ho
  refine⟨p2,_,rfl,.inl (hE.of b_),_,_,rfl,rfl,(by rw[el];omega),p,_,_,_,rfl,rfl,hE.of (il zf b_),(by rw[el];exact eo),?_⟩
  refine⟨d,D,W,st,x,o,rfl,X.same s5,I,j0,Ck,gx.ke,NL o Vo,fun h=>absurd xx h,fun _ h=>absurd gx h,fun _ _ h=>absurd h hx,fun _ _ _ h=>absurd Vn h,fun _ _ _ _ H' X' s'=>?_⟩
  exact q H' _ X' (fun b o e n=>s' b o (s5 _ _ e) n) (I.back xx hx Vn) (z.keep st (aaI _) (aaI _)) rfl (.inr (uH D st _))
 | false=>
 refine jz ?_
 refine⟨fun b H4=>gm H3 H4∧(b=true→D.has st≠[]),?_,?_⟩
 ·refine⟨_,rfl,rfl,_,rfl,?_⟩
  refine lE (fun _=>?_) (fun _=>⟨gm.refl _,fun z=>by cases z⟩)
  refine⟨_,rfl,_,_,rfl,rfl,(by show(0:Int)<4;decide),rfl,_,rfl,?_⟩
  refine lE (fun _=>?_) (fun _=>⟨gm.refl _,fun z=>by cases z⟩)
  refine⟨_,rfl,d,π.dx,_,rfl,s3 _ _ y.hd,sL,_,rfl,d,D,W,st,rfl,X3,Ck,j0,fun h=>absurd xx h,fun _ p tE=>?_⟩
  refine⟨p,_,rfl,.inl (hE.of b_),_,_,rfl,rfl,_,rfl,(gm.refl H3).new tE,fun h e=>?_⟩
  rw[e] at h
  exact absurd (aaA h) (by decide)
 rintro b H4 ⟨Qz,hb⟩
 have s4:=s3.trans Qz
 have X4:=X.same s4
 cases b with
 | true=>
  have oy:=hb rfl
  obtain⟨zs,la,Vp⟩:∃zs la,D.has st=zs++[la]:=⟨_,_,(List.dropLast_concat_getLast oy).symm⟩
  have U6:=QB st la (by rw[Vp];simp)
  refine l7 ?_
  refine⟨_,rfl,d,π.dx,_,rfl,s4 _ _ y.hd,MB,_,rfl,_,rfl,d,π.dx,_,rfl,s4 _ _ y.hd,sL,_,rfl,d,D,W,st,rfl,X4,Ck,j0,fun h=>absurd xx h,fun _ p tE=>?_⟩
  have s5:=s4.new (o:=.lst (gp (D.has st))) tE
  have NP:AZ (gp (D.has st)) (-1)=some (V.str la):=by rw[Vp,←jg];exact Eb _ _
  refine⟨_,rfl,p,_,_,_,rfl,rfl,hE.of b_,NP,?_⟩
  refine⟨d,D,W,st,la,rfl,X.same s5,I,j0,Ck,NL la U6.2,NL,fun h=>absurd xx h,fun _ h=>absurd U6.1 h,fun _ _ h=>absurd (I.BQ xx Vp) h,fun _ _ _ H' X' s'=>?_⟩
  exact q H' _ X' (fun b o e n=>s' b o (s5 _ _ e) n) (I.drop xx (I.BQ xx Vp)) ⟨z.up.many,z.up.ir,z.up.i3⟩ rfl (.inl rfl)
 | false=>
 refine jz ?_
 refine⟨_,rfl,_,_,rfl,rfl,_,rfl,?_⟩
 refine lE (fun _=>?_) (fun _=>?_)
 ·have b3:=mod_lt (c/66) (stores.length:Int) (by omega)
  obtain⟨so,IK,Rb⟩:=pick (xs:=stores) b3.1 b3.2
  obtain⟨Ue,Ug⟩:=lG so Rb
  refine⟨_,rfl,_,rfl,_,rfl,ss,_,rfl,.inl (hE.of (s4 _ _ QA)),_,_,rfl,rfl,(by rw[es];omega),ss,_,_,_,rfl,rfl,hE.of (s4 _ _ QA),(by rw[es];exact IK),?_⟩
  refine⟨_,rfl,d,π.dx,_,rfl,s4 _ _ y.hd,sL,_,rfl,d,D,W,so,rfl,X4,Ug,j0,fun h=>absurd Ue h,fun _ p tE=>?_⟩
  have s5:=s4.new (o:=.lst (gp (D.has so))) tE
  refine⟨_,rfl,p,_,rfl,.inl (hE.of b_),_,_,rfl,rfl,_,rfl,?_⟩
  refine lE (fun h=>?_) (fun _=>?_)
  ·have h:0<(D.has so).length:=by have:=aaA h;rw[el] at this;omega
   have b4:=mod_lt (c/66/5) ((D.has so).length:Int) (by omega)
   obtain⟨o,eo,ho⟩:=pick (xs:=D.has so) b4.1 b4.2
   obtain⟨Vn,Vo⟩:=QB so o ho
   refine⟨_,rfl,d,π.dx,_,rfl,s5 _ _ y.hd,C9,_,rfl,_,rfl,_,rfl,_,rfl,_,_,rfl,rfl,⟨by decide,by decide⟩,_,rfl,p,_,rfl,.inl (hE.of b_),_,_,rfl,rfl,(by rw[el];omega),p,_,_,_,rfl,rfl,hE.of b_,(by rw[el];exact eo),?_⟩
   refine⟨d,D,W,st,so,o,rfl,X.same s5,I,j0,Ck,Ug,NL o Vo,fun h=>absurd xx h,fun _ h=>absurd Ue h,fun _ _ h=>absurd Vn h,fun _ _ _ cm H6 H' s6 NS _ X' s'=>?_⟩
   exact q H' _ X' (fun b o e n=>s' b o (by rw[e_ (gj (s6 _ _ (s5 _ _ e)) NS)];exact s6 _ _ (s5 _ _ e)) n) (I.take xx Vo) ⟨z.up.many,z.up.ir,z.up.i3⟩ rfl (.inl rfl)
  ·exact q _ D (X.same s5) (lZ.of s5) I z.up rfl (.inl rfl)
 refine⟨_,rfl,d,π.dx,_,rfl,s4 _ _ y.hd,sM,_,rfl,_,rfl,d,D,W,st,f,rfl,X4,Ck,sm,I,fun h=>absurd xx h,fun _ p H5 qs Lo tE Le zf=>?_⟩
 have s5:=s4.trans Lo
 have I_:=aaq zf
 have Lr:=Lo _ _ (Qz _ _ (s23 _ _ Lq))
 refine⟨p,_,rfl,.inl (hE.of Le),rfl,_,rfl,?_⟩
 refine lE (fun h=>?_) (fun h=>?_)
 ·have hq:D.uv st f=[]:=by
   have:=V.int.inj (aaA h)
   rw[←I_] at this
   exact aaK.mp (by omega)
  refine⟨_,rfl,d,π.dx,_,rfl,s5 _ _ y.hd,B3,_,rfl,_,rfl,_,rfl,_,rfl,_,rfl,Lp,(D.row st f).map (·.tx),c/66,rfl,Lr,by rw[Tj];omega,fun t H6 ts Ja IP ed=>?_⟩
  have s6:=s5.trans Ja
  have P9:=ed.len
  rw[Tj] at P9
  refine⟨d,t,D,W,st,x,f,ts,rfl,X.same s6,I,sm,aac z.ir (by omega),Ck,gx.ke,gf.ke,IP,by omega,fun h=>absurd xx h,fun _ h=>absurd ⟨gx,gf⟩ h,fun _ _ _ h=>absurd h hx,fun _ _ _ _ h=>absurd hq h,fun _ _ _ _ _ h=>absurd h ed.ne,fun _ _ _ _ _ _ H' X' s'=>?_⟩
  refine q H' _ X' (fun b o e n=>s' b o (s6 _ _ e) n) (I.record xx hx hq ts) (z.keep st (B9 ed) (aac qI.2 (by omega))) rfl (.inr (uH D st _))
 ·have hq:D.uv st f≠[]:=fun e=>h (by rw[←I_,e];rfl)
  have Uh:0<(D.row st f).length:=by
   rcases Nat.eq_zero_or_pos (D.row st f).length with e|e
   ·exfalso
    apply hq
    show jv _ (D.row st f)=[]
    rw[aaK.mp e]
    rfl
   ·exact e
  have b3:=mod_lt (c/66) ((D.row st f).length:Int) (by omega)
  refine⟨_,rfl,d,π.dx,_,rfl,s5 _ _ y.hd,Ky,_,rfl,_,rfl,_,rfl,_,rfl,_,rfl,Lp,_,rfl,.inl (hE.of Lr),_,_,rfl,rfl,(by rw[el,AF];omega),L2.j0,fun t ht=>?_⟩
  have s6:=s5.new (o:=.lst [V.int (c/66%((gp ((D.row st f).map (·.tx))).length:Int))]) ht
  refine⟨d,t,D,W,st,x,f,[c/66%((gp ((D.row st f).map (·.tx))).length:Int)],rfl,X.same s6,I,sm,Ck,gx.ke,gf.ke,b_,by show 1≤1000;decide,fun p hp=>?_,fun h=>absurd xx h,fun _ h=>absurd ⟨gx,gf⟩ h,fun _ _ _ h=>absurd h hx,fun _ _ _ _ h=>absurd ?_ h,(fun _ _ _ _ h=>by cases h),fun _ _ _ _ ok _ H' X' s'=>?_⟩
  ·rw[Tq.mp hp,el,AF]
   refine abc (m:=108) ?_ (by decide)
   exact aac (Nat.log2_le_self _) (by omega)
  ·rw[el,AF]
   exact⟨⟨b3.1,b3.2⟩,trivial⟩
  ·refine q H' _ X' (fun b o e n=>s' b o (s6 _ _ e) n) (I.cut xx hx fun m hm=>?_) (z.keep st (aaI _) (aac (abY _ _) (by show 1≤_;omega))) rfl (.inr (uH D st _))
   obtain⟨pl,_,qg⟩:=abM.mp hm
   obtain⟨l',nS,rfl⟩:=Option.map_eq_some_iff.mp qg
   exact Wc (V_ nS)
theorem kC{K:Qqy}{H H':Hp}{a:Addr}{xs:List V}(h:hE K H a xs)(s:gm H H'):hE K H' a xs:=by
 rcases h with(h|⟨u,h⟩)|h
 ·exact .inl (.inl (s _ _ h))
 ·exact .inl (.inr ⟨u,s _ _ h⟩)
 ·exact .inr h
noncomputable abbrev nQ(ns:List Int)(i:Int):Int:=cellAt ns i%20736
noncomputable def wx(ns:List Int):List Str:=[nameOf (nQ ns 0) 0,nameOf (nQ ns 0) 1,nameOf (nQ ns 0) 2]
noncomputable def nP(ns:List Int):List Str:=[nameOf (nQ ns 1) 0,nameOf (nQ ns 1) 1]
theorem B_(ns:List Int):(wx ns).Nodup:=by
 have h:∀i j:Int,0≤i→i<36→0≤j→j<36→i≠j→nameOf (nQ ns 0) i≠nameOf (nQ ns 0) j:=fun i j a b c d e z=>e (sP a b c d z)
 unfold wx
 simp only [aaL,W3,aaP,abQ,not_or,aa6,and_true]
 exact⟨⟨h 0 1 (by decide) (by decide) (by decide) (by decide) (by decide),h 0 2 (by decide) (by decide) (by decide) (by decide) (by decide)⟩,h 1 2 (by decide) (by decide) (by decide) (by decide) (by decide),by simp⟩
theorem v_{ns:List Int}:∀s∈wx ns,Good s:=by
 intro s hs
 unfold wx at hs
 simp only [W3,aaP,abQ] at hs
 rcases hs with rfl|rfl|rfl<;>exact kr _ _
theorem KN{ns:List Int}:∀s∈nP ns,Good s:=by
 intro s hs
 unfold nP at hs
 simp only [W3,aaP,abQ] at hs
 rcases hs with rfl|rfl<;>exact kr _ _
structure Built(A:Ad)(ns:List Int)(n:Nat)(H H':Hp)(b d ss fs:Addr)(D:Dk)(W:Addr→Prop):Prop where
 same:gm H H'
 fresh:H b=none
 at_:H' b=some (.lst [.ref d,.ref ss,.ref fs])
 st:H' ss=some (.lst (gp (wx ns)))
 fl:H' fs=some (.lst (gp (nP ns)))
 Wo:ia A H' d D W
 own:∀x,W x→H x=none
 inv:Inv D
 sz:Sz n D
 stores:D.stores=wx ns
 names:∀x∈D.names,∃j:Nat,j<n∧x=nameOf (nQ ns 3) j
def PH(K:PySem.W.Frag)(A:Ad):Sp:=fun vs H Q _=>∃(a:Addr)(ns:List Int)(first:Int)(n:Nat)(bk:Bool),vs=[.ref a,.int first,.int n,.bl bk]∧hE K H a (ns.map V.int)∧ns.length≤1000∧0≤first∧first≤1000∧n≤35∧∀b d ss fs D W H',Built A ns n H H' b d ss fs D W→Q (.ref b) H'
theorem MO(T:Txt mg)(O:Ok K mg A):ip P w K mg base mU 8 A.yt A.yu ["script","first","most","backs"] (PH K A):=by
 have yV:=@C_ P w K mg base A T O
 have Dw:=(@KC P w K mg base A T O).DR
 have mT:=@Hi P w K mg base A T O
 have ij:=@Hh P w K mg base A T O
 have Fi:=@ML P w K mg base A T O
 have Fj:=@MN P w K mg base A T O
 refine O.BX.f.rl jc fun js A0 outer s H vs Q E hr h=>?_
 obtain⟨a,ns,first,n,bk,rfl,ha,Qm,hf0,hf1,hn,q⟩:=h
 have sz:sizeLine=16777216:=aaB
 refine⟨_,(de (lx 4 jc (Jm O.O7 yV (hr.mono (by decide)) rfl O.O8 O.t_.b .nil pM))
   (de (zx (j:=5) rW (gc mO).names [8] jc.nd rfl rfl rfl (kK rfl T.lT (a_ f_ d_)) rfl (by decide+kernel) (fun _ _ _ _=>(iF (i:=8) jc.nd rfl (Or.inl rfl))) (fun _ _ _ _=>mj) (fun _ _ _ _=>A6 (ml O.qa mT hr (a_ (gs iD (ml O.iA ij hr (a_ (pv 0) (a_ f_ d_))) f_) (a_ (pv 8) d_)))))
   (de (zx (j:=6) rW (gc mO).names [8] jc.nd rfl rfl rfl (kK rfl T.lT (a_ f_ d_)) rfl (by decide+kernel) (fun _ _ _ _=>(iF (i:=8) jc.nd rfl (Or.inl rfl))) (fun _ _ _ _=>mj) (fun _ _ _ _=>A6 (ml O.qa mT hr (a_ (gs iD (ml O.iA ij hr (a_ (pv 0) (a_ f_ d_))) f_) (a_ (pv 8) d_)))))
   (de (iH aaz rfl (iq (pv 5)) (tM 7 jc) (fT (g_ (uS (pv 4) O.gC O.Ai Dw hr (a_ (pv 7) d_)))))
   (de (iH aaz rfl (kK rfl T.lT (a_ (pv 2) d_)) (tM 8 jc) (de (lx 9 jc (ml O.iA ij hr (a_ (pv 0) (a_ (gs iI (pv 1) (pv 8)) d_))))
   (de (rF (iy (ik RD (gs iI (pv 1) (pv 8)) (gF gz (by rfl) T.jH aay (a_ (pv 0) d_)) (iE _)) (fT (lx 9 jc (ml O.BV Fi hr (a_ (ml O.iA ij hr (a_ (pv 0) (a_ f_ d_))) (a_ (pv 8) (a_ f_ d_)))))) hX))
   (fT (g_ (ml O.BW Fj hr (a_ (pv 4) (a_ (pv 5) (a_ (pv 6) (a_ (pv 9) (a_ (ml O.qa mT hr (a_ (gs iD (ml O.iA ij hr (a_ (pv 0) (a_ f_ d_))) f_) (a_ (pv 8) d_))) (a_ (pv 3) d_))))))))))))
   (fT (h_ (iW (a_ (pv 4) (a_ (pv 5) (a_ (pv 6) d_))))))))))),?_⟩
 refine RU ?_;intro _ _ _ _ _
 intro d px nd XU nxd
 refine⟨d,px,rfl,b_,fun H1 W X1 hW k1=>⟨rfl,?_⟩⟩
 have s0:gm H (upd (upd H px (.own d)) d (.ins A.gq px [])):=fun b o e=>by rw[e_ (gj e nd),e_ (gj e XU)];exact e
 have s1:gm H H1:=fun b o e=>k1 b o (s0 b o e) (gj e nd)
 have hW0:∀b,W b→H b=none:=fun b hb=>s0.free (hW b hb)
 refine⟨_,rfl,by decide,by decide,?_⟩
 let Jv:=fun(m:Nat) (ys:List V) (σ:St) (H2:Hp)=>∃(v8:Option V),σ=[rr a,ri first,ri n,some (.bl bk),rr d,none,none,none,v8,none]∧H2=H1∧ys=gp ((List.range m).map fun(j:Nat)=>nameOf (nQ ns 0) j)
 refine rE (n:=3) (by decide) Jv ⟨none,rfl,rfl,rfl⟩ (by rintro _ _ _ _ ⟨_,_,_,e⟩;rw[e];simp) ?_ ?_
 ·rintro m ys σ H2 hm ⟨v8,rfl,rfl,rfl⟩
  refine⟨_,rfl,a,ns,0,rfl,kC ha s1,by decide,_,_,rfl,rfl,(by show(0:Int)<20736;decide),_,rfl,_,_,rfl,?_⟩
  refine⟨_,rfl,rfl,?_⟩
  rw[acm,aar,←mL]
  show _++[V.str (nameOf (nQ ns 0) (0+(m:Int)))]=_
  rw[Int.zero_add]
  rfl
 rintro ys σ H2 ⟨v8,rfl,rfl,rfl⟩ ss QA
 have s2:=s1.new (o:=.lst (gp (wx ns))) QA
 have X2:=X1.same ((gm.refl H2).new (o:=.lst (gp (wx ns))) QA)
 have Ui:(upd H2 ss (.lst (gp (wx ns)))) ss=some (.lst (gp (wx ns))):=b_
 have Yf:gp ((List.range 3).map fun(j:Nat)=>nameOf (nQ ns 0) j)=gp (wx ns):=rfl
 rw[Yf]
 generalize upd H2 ss (.lst (gp (wx ns)))=H3 at s2 X2 Ui
 refine⟨_,rfl,by decide,by decide,?_⟩
 let Jv:=fun(m:Nat) (ys:List V) (σ:St) (H2:Hp)=>∃(v8:Option V),σ=[rr a,ri first,ri n,some (.bl bk),rr d,rr ss,none,none,v8,none]∧H2=H3∧ys=gp ((List.range m).map fun(j:Nat)=>nameOf (nQ ns 1) j)
 refine rE (n:=2) (by decide) Jv ⟨none,rfl,rfl,rfl⟩ (by rintro _ _ _ _ ⟨_,_,_,e⟩;rw[e];simp) ?_ ?_
 ·rintro m ys σ H2 hm ⟨v8,rfl,rfl,rfl⟩
  refine⟨_,rfl,a,ns,1,rfl,kC ha s2,by decide,_,_,rfl,rfl,(by show(0:Int)<20736;decide),_,rfl,_,_,rfl,?_⟩
  refine⟨_,rfl,rfl,?_⟩
  rw[acm,aar,←mL]
  show _++[V.str (nameOf (nQ ns 1) (0+(m:Int)))]=_
  rw[Int.zero_add]
  rfl
 rintro ys σ H4 ⟨v8,rfl,rfl,rfl⟩ fs yD
 have Ft:gp ((List.range 2).map fun(j:Nat)=>nameOf (nQ ns 1) j)=gp (nP ns):=rfl
 rw[Ft]
 have s3:=s2.new (o:=.lst (gp (nP ns))) yD
 have X3:=X2.same ((gm.refl H4).new (o:=.lst (gp (nP ns))) yD)
 have QC:=il (u:=.lst (gp (nP ns))) yD Ui
 have Uj:(upd H4 fs (.lst (gp (nP ns)))) fs=some (.lst (gp (nP ns))):=b_
 generalize upd H4 fs (.lst (gp (nP ns)))=H5 at s3 X3 QC Uj
 dsimp only [ma];refine IT ?_;intro _
 let Jv:=fun(i:Nat) (σ:St) (H6:Hp)=>∃(v7:Option V)(D:Dk)(W:Addr→Prop),σ=[rr a,ri first,ri n,some (.bl bk),rr d,rr ss,rr fs,v7,none,none]∧gm H H6∧H6 ss=some (.lst (gp (wx ns)))∧H6 fs=some (.lst (gp (nP ns)))∧ia A H6 d D W∧(∀b,W b→H b=none)∧Inv D∧D.made=[]∧D.stores=(wx ns).take i
 refine⟨_,rfl,ss,rfl,⟨_,hE.of QC⟩,i0 (K:=K) (a:=ss) (xs:=gp (wx ns)) Jv
  ⟨none,UN,W,rfl,s3,QC,Uj,X3,hW0,Wn,rfl,rfl⟩ (by rintro _ _ _ _ ⟨_,_,_,_,_,e,_⟩;exact hE.of e) ?_ ?_⟩
 ·rintro i v σ H6 hx ⟨v7,D,W,rfl,s6,h1,h2,X6,Uk,I6,Rc,QD⟩
  obtain⟨st,lG,rfl⟩:=lb hx
  have g:=v_ st (V_ lG)
  have QZ:i<3:=(List.getElem?_eq_some_iff.mp lG).1
  have M9:st∉D.stores:=fun hm=>by
   rw[QD] at hm
   obtain⟨j,hj⟩:=aaO.mp hm
   have IL:j<i:=by have:=(List.getElem?_eq_some_iff.mp hj).1;rw[aaD] at this;omega
   rw[abN,aap IL] at hj
   have:=(abF (List.getElem?_eq_some_iff.mp hj).1 (B_ ns)).mp (hj.trans lG.symm)
   omega
  obtain⟨π,y⟩:=id X6
  refine⟨_,rfl,d,π.dx,_,rfl,y.hd,Kx,_,rfl,d,D,W,st,rfl,X6,g.ke,?_,fun h=>absurd g h,fun _ h=>absurd h M9,fun _ _ H7 W7 X7 s7 hW7=>?_⟩
  ·rw[QD,aaD];omega
  ·refine⟨_,D.begin st,W7,rfl,fun b o e=>?_,s7 _ _ h1 (X6.lst h1),s7 _ _ h2 (X6.lst h2),X7,fun b hb=>?_,I6.begin M9,Rc,?_⟩
   ·exact s7 b o (s6 _ _ e) (fun hb=>by rw[Uk b hb] at e;cases e)
   ·rcases hW7 b hb with h|h
    ·exact Uk b h
    ·exact s6.free h
   ·show D.stores++[st]=_
    rw[QD,take_snoc lG]
 rintro σ H6 ⟨v7,D0,W,rfl,s6,h1,h2,X6,Uk,I6,Rc,QD⟩
 have QD:D0.stores=wx ns:=by rw[QD,Tj];exact aas
 refine⟨_,rfl,_,rfl,by omega,by omega,?_⟩
 rw[abT]
 let Jv:=fun(i:Nat) (σ:St) (H7:Hp)=>∃(v8 v9:Option V)(D:Dk),σ=[rr a,ri first,ri n,some (.bl bk),rr d,rr ss,rr fs,v7,v8,v9]∧gm H H7∧H7 ss=some (.lst (gp (wx ns)))∧H7 fs=some (.lst (gp (nP ns)))∧ia A H7 d D W∧Inv D∧Sz i D∧D.stores=wx ns∧∀x∈D.names,∃j:Nat,j<i∧x=nameOf (nQ ns 3) j
 refine mi Jv
  ⟨none,none,D0,rfl,s6,h1,h2,X6,I6,⟨by rw[Rc];exact ZA _,by rw[Rc];exact ZA _,by rw[Rc];exact ZA _⟩,QD,fun x hx=>by unfold Dk.names at hx;rw[Rc] at hx;cases hx⟩ ?_ ?_
 ·rintro i σ H7 hi ⟨v8,v9,D,rfl,s7,k1,k2,X7,I7,z7,Vq,N5⟩
  rw[show(0:Int)+(i:Int)=(i:Int) by omega]
  refine⟨_,rfl,_,rfl,_,rfl,_,_,rfl,rfl,a,ns,_,rfl,kC ha s7,by omega,?_⟩
  refine⟨fun σ H8=>∃c:Int,σ=[rr a,ri first,ri n,some (.bl bk),rr d,rr ss,rr fs,v7,ri i,ri c]∧H8=H7,?_,?_⟩
  ·refine⟨_,rfl,_,rfl,_,_,rfl,rfl,_,rfl,a,_,rfl,.inl (kC ha s7),_,_,rfl,rfl,_,rfl,?_⟩
   refine lE (fun _=>?_) (fun _=>⟨_,rfl,rfl⟩)
   refine⟨_,rfl,a,ns,2,rfl,kC ha s7,by decide,_,rfl,_,_,_,rfl,by decide,by omega,by omega,fun x _ _=>⟨x,rfl,rfl⟩⟩
  rintro σ H8 ⟨c,rfl,rfl⟩
  refine⟨_,rfl,_,rfl,_,rfl,_,rfl,_,rfl,a,ns,3,rfl,kC ha s7,by decide,_,_,rfl,rfl,(by show(0:Int)<20736;decide),_,rfl,_,_,rfl,_,rfl,?_⟩
  have gx:=kr (nQ ns 3) (i:Int)
  refine⟨d,ss,fs,D,W,i,wx ns,nP ns,c,_,bk,rfl,X7,I7,z7,by omega,k1,(by unfold wx;simp),(by show 3≤1000;decide),fun t ht=>⟨by rw[Vq];exact ht,(v_ t ht).ke⟩,k2,(by unfold nP;simp),(by show 2≤1000;decide),KN,gx,fun hm=>?_,fun t ht=>?_,fun H9 D' X9 s9 I9 z9 hs9 hn9=>?_⟩
  ·obtain⟨j,hj,e⟩:=N5 _ hm
   have:=sP (by omega) (by omega) (by omega) (by omega) e
   omega
  ·obtain⟨j,hj,e⟩:=N5 _ ht
   rw[e];exact(kr _ _).ke
  ·refine⟨_,_,D',rfl,fun b o e=>s9 b o (s7 _ _ e) (fun hb=>by rw[Uk b hb] at e;cases e),s9 _ _ k1 (X7.lst k1),s9 _ _ k2 (X7.lst k2),X9,I9,z9,hs9.trans Vq,fun t ht=>?_⟩
   rcases hn9 with e|e
   ·rw[e] at ht
    obtain⟨j,hj,e⟩:=N5 _ ht
    exact⟨j,by omega,e⟩
   ·rw[e] at ht
    rcases W9.mp ht with ht|ht
    ·obtain⟨j,hj,e⟩:=N5 _ ht
     exact⟨j,by omega,e⟩
    ·exact⟨i,by omega,Tq.mp ht⟩
 ·rintro σ H7 ⟨v8,v9,D,rfl,s7,k1,k2,X7,I7,z7,Vq,N5⟩
  refine⟨_,rfl,_,rfl,_,rfl,L2.j0,fun b hb=>?_⟩
  have s8:=s7.new (o:=.lst [.ref d,.ref ss,.ref fs]) hb
  exact q b d ss fs D W _ ⟨s8,s7.free hb,b_,il hb k1,il hb k2,X7.same ((gm.refl H7).new hb),Uk,I7,z7,Vq,N5⟩
end
inductive Dv where
 | o
 | s (x:Str)
 | i (n:Int)
 | l (xs:List Dv)
 | t (xs:List Dv)
inductive Rep(H:Hp):Nat→V→Dv→Prop
 | o {n}:Rep H n .jo .o
 | s {n x}:Rep H n (.str x) (.s x)
 | i {n x}:Rep H n (.int x) (.i x)
 | l {n a vs xs} (h:H a=some (.lst vs)) (hl:vs.length=xs.length) (hr:∀(j:Nat) u d,vs[j]?=some u→xs[j]?=some d→Rep H n u d):Rep H (n+1) (.ref a) (.l xs)
 | t {n a vs xs} (h:H a=some (.tup vs)) (hl:vs.length=xs.length) (hr:∀(j:Nat) u d,vs[j]?=some u→xs[j]?=some d→Rep H n u d):Rep H (n+1) (.ref a) (.t xs)
theorem Rep.same{H H':Hp}{n:Nat}{v:V}{d:Dv}(r:Rep H n v d)(s:gm H H'):Rep H' n v d:=by
 induction r with
 | o=>exact .o
 | s=>exact .s
 | i=>exact .i
 | l h hl _ ih=>exact .l (s _ _ h) hl ih
 | t h hl _ ih=>exact .t (s _ _ h) hl ih
theorem Rep.up{H:Hp}{n:Nat}{v:V}{d:Dv}(r:Rep H n v d):Rep H (n+1) v d:=by
 induction r with
 | o=>exact .o
 | s=>exact .s
 | i=>exact .i
 | l h hl _ ih=>exact .l h hl ih
 | t h hl _ ih=>exact .t h hl ih
theorem Rep.mono{H:Hp}{n m:Nat}{v:V}{d:Dv}(r:Rep H n v d)(h:n≤m):Rep H m v d:=by
 obtain⟨k,rfl⟩:=Nat.exists_eq_add_of_le h
 induction k with
 | zero=>exact r
 | succ k ih=>exact(ih (by omega)).up
theorem all_true(n:Nat):((List.range n).all fun _=>true)=true:=by rw[abK];intro x _;rfl
theorem Rep.eq{K:Qqy}{H:Hp}{n:Nat}{u v:V}{d:Dv}(r1:Rep H n u d):Rep H n v d→oA K H n u v true:=by
 induction r1 generalizing v with
 | @o n=>
  intro r2
  cases r2
  exact oA.flat (K:=K) (H:=H) (n:=n) (x:=V.jo) (y:=V.jo) rfl rfl
 | @s n x=>
  intro r2
  cases r2
  have:=oA.JA (K:=K) (H:=H) (n:=n) x x
  rw[ZF rfl] at this
  exact this
 | @i n x=>
  intro r2
  cases r2
  have:=oA.OM (K:=K) (H:=H) (n:=n) x x
  rw[ZF rfl] at this
  exact this
 | @l n a vs xs h hl hr ih=>
  intro r2
  cases r2 with
  | @l _ c ws _ h' nS Yh=>
   have:=oA.lists (K:=K) (H:=H) (n:=n) (e:=fun _=>true) (hE.of h) (hE.of h') (hl.trans nS.symm) fun j u v hu hv=>by
    have hj:j<xs.length:=by rw[←hl];exact(List.getElem?_eq_some_iff.mp hu).1
    exact ih j u _ hu (Wd hj) (Yh j v _ hv (Wd hj))
   rw[all_true] at this
   exact this
 | @t n a vs xs h hl hr ih=>
  intro r2
  cases r2 with
  | @t _ c ws _ h' nS Yh=>
   have:=oA.rj (K:=K) (H:=H) (n:=n) (e:=fun _=>true) (rn.of h) (rn.of h') fun j u v hu hv=>by
    have hj:j<xs.length:=by rw[←hl];exact(List.getElem?_eq_some_iff.mp hu).1
    exact ih j u _ hu (Wd hj) (Yh j v _ hv (Wd hj))
   rw[all_true,hl,nS,beq_self_eq_true,Bool.and_true] at this
   exact this
theorem Rep.Iv{H:Hp}{n:Nat}{a:Addr}{β:Type}{F:V→β→Prop}{g:β→Dv}{vs:List V}{xs:List β}(h:H a=some (.lst vs))(p:Paired F vs xs)(hF:∀v x,F v x→Rep H n v (g x)):Rep H (n+1) (.ref a) (.l (xs.map g)):=by
 refine .l h (by rw[Tj];exact aaq p) fun j u d hu hd=>?_
 obtain⟨x,hx,f⟩:=iw p hu
 rw[aam,hx] at hd
 cases hd
 exact hF u x f
theorem Rep.two{H:Hp}{a:Addr}{n:Nat}{u v:V}{x y:Dv}(h:H a=some (.lst [u,v]))(h1:Rep H n u x)(h2:Rep H n v y):Rep H (n+1) (.ref a) (.l [x,y]):=by
 refine .l h rfl fun j u' d hu hd=>?_
 match j with
 | 0=>cases hu;cases hd;exact h1
 | 1=>cases hu;cases hd;exact h2
 | j+2=>simp at hu
noncomputable def PJ(row:List Ln):Dv:=.l (row.map fun l=>.t [.s l.nm.1,.i l.nm.2,.s l.tx])
noncomputable def Wq(qs:List (Nat×Nat)):Dv:=.l (qs.map fun q=>.t [.i q.1,.i q.2])
theorem As.rep{H:Hp}{a:Addr}{row:List Ln}(x:As H a row):Rep H 2 (.ref a) (PJ row):=by
 obtain⟨vs,h,p⟩:=x
 refine Rep.Iv h p fun v l ⟨t,e,ht⟩=>?_
 subst e
 refine .t ht rfl fun j u d hu hd=>?_
 match j with
 | 0=>cases hu;cases hd;exact .s
 | 1=>cases hu;cases hd;exact .i
 | 2=>cases hu;cases hd;exact .s
 | j+3=>simp at hu
theorem Iw{H:Hp}{a:Addr}{vs:List V}{qs:List (Nat×Nat)}(h:H a=some (.lst vs))(x:iG H qs vs):Rep H 2 (.ref a) (Wq qs):=by
 refine .l h (by rw[Tj];exact(aaq x).symm) fun j u d hu hd=>?_
 obtain⟨q,hq,b,e,hb⟩:=lB x hu
 subst e
 rw[aam,hq] at hd
 cases hd
 refine .t hb rfl fun j u d hu hd=>?_
 match j with
 | 0=>cases hu;cases hd;exact .i
 | 1=>cases hu;cases hd;exact .i
 | j+2=>simp at hu
end PK
namespace PM
open PySem (Str)
def Nw(L N:List Ln):Prop:=∀l∈N,(∀b,l.lo=some b→b∈L.map (·.nm))∧∀m b,l.up=some m→l.lo=some b→Ah L m b∨∃l'∈N,l'.nm=m∧l'.lo=some b
theorem Nw.mono{L L' N:List Ln}(w:Nw L N)(h:∀l∈L,l∈L'):Nw L' N:=fun l hl=>
 ⟨fun b e=>by
  obtain⟨o,ho,z⟩:=List.mem_map.mp ((w l hl).1 b e)
  exact z▸Wc (h o ho),fun m b e1 e2=>((w l hl).2 m b e1 e2).imp (fun z=>z.mono h) id⟩
theorem MP{L N:List Ln}(c:mZ L)(w:Nw L N)(nd:(N.map (·.nm)).Nodup)(dj:∀l∈N,l.nm∉L.map (·.nm)){a v:Nm}(ha:a∈L.map (·.nm))(h:Ah (L++N) a v) :
  (v∈L.map (·.nm)→Ah L a v)∧∀l∈N,l.nm=v→∀b,l.lo=some b→Ah L a b:=by
 have uq:∀l∈N,∀l'∈N,l.nm=l'.nm→l=l':=fun l hl l' nS e=>by
  obtain⟨i,hi,ei⟩:=List.mem_iff_getElem.mp hl
  obtain⟨j,hj,ej⟩:=List.mem_iff_getElem.mp nS
  have:=(List.getElem_inj (i:=i) (j:=j) (h₀:=by rw[Tj];exact hi) (h₁:=by rw[Tj];exact hj) nd).mp (by rw[List.getElem_map,List.getElem_map,ei,ej];exact e)
  subst this
  rw[←ei,←ej]
 have old:∀{v},v∈L.map (·.nm)→∀l∈N,l.nm=v→∀b,l.lo=some b→Ah L a b:=fun hv l hl e=>absurd hv (e▸dj l hl)
 induction h with
 | one x=>
  obtain⟨l,hl,q⟩:=x
  rcases W9.mp hl with hl|hl
  ·have hs:Sa L a _:=⟨l,hl,q⟩
   exact⟨fun _=>.one hs,old (c.sa hs).2⟩
  ·rcases q with⟨rfl,e⟩|⟨rfl,e⟩
   ·refine⟨fun z=>absurd z (dj l hl),fun l' nS e' b hb=>?_⟩
    rw[uq l' nS l hl e'] at hb
    rcases(w l hl).2 a b e hb with z|⟨l2,h2,e2,_⟩
    ·exact z
    ·exact absurd ha (e2▸dj l2 h2)
   ·exact absurd ha (dj l hl)
 | @J4 k v h x ih=>
  obtain⟨l,hl,q⟩:=x
  rcases W9.mp hl with hl|hl
  ·have hs:Sa L k v:=⟨l,hl,q⟩
   exact⟨fun _=>.J4 (ih.1 (c.sa hs).1) hs,old (c.sa hs).2⟩
  ·rcases q with⟨rfl,e⟩|⟨rfl,e⟩
   ·refine⟨fun z=>absurd z (dj l hl),fun l' nS e' b hb=>?_⟩
    rw[uq l' nS l hl e'] at hb
    rcases(w l hl).2 k b e hb with z|⟨l2,h2,e2,h3⟩
    ·exact(ih.1 (c.ah z).1).trans z
    ·exact ih.2 l2 h2 e2 b h3
   ·exact⟨fun _=>ih.2 l hl rfl v e,old ((w l hl).1 v e)⟩
theorem MQ{L N:List Ln}(c:mZ L)(w:Nw L N)(nd:(N.map (·.nm)).Nodup)(dj:∀l∈N,l.nm∉L.map (·.nm)){a v:Nm}(ha:a∈L.map (·.nm))(hv:v∈L.map (·.nm)):Ah (L++N) a v↔Ah L a v:=
 ⟨fun h=>(MP c w nd dj ha h).1 hv,fun h=>h.mono fun l hl=>aal _ hl⟩
theorem yz{lt lt':Nm→Nm→Prop}:∀(n:Nat)(ls:List Ln),(∀a∈ls,∀b∈ls,lt a.nm b.nm↔lt' a.nm b.nm)→n4 lt n ls=n4 lt' n ls
 | 0,_,_=>rfl
 | n+1,ls,h=>by
  have hf:∀l∈ls,free lt ls l=free lt' ls l:=fun l hl=>by
   unfold free
   rw[decide_eq_decide]
   exact⟨fun z o ho w=>z o ho ((h o ho l hl).mpr w),fun z o ho w=>z o ho ((h o ho l hl).mp w)⟩
  have he:ls.find? (free lt ls)=ls.find? (free lt' ls):=by
   have key:∀(xs:List Ln)(p q:Ln→Bool),(∀x∈xs,p x=q x)→xs.find? p=xs.find? q:=by
    intro xs p q
    induction xs with
    | nil=>intro _;rfl
    | cons x r ih=>
     intro hx
     rw[abH,abH,hx x aat,ih fun y hy=>hx y (aad _ hy)]
   exact key ls _ _ hf
  unfold n4
  rw[he]
  cases ls.find? (free lt' ls) with
  | none=>rfl
  | some l=>
   show l::_=l::_
   rw[yz n _ fun a ha b hb=>h a (ZH.mp ha).1 b (ZH.mp hb).1]
theorem E4{lt lt':Nm→Nm→Prop}{ls:List Ln}(h:∀a∈ls,∀b∈ls,lt a.nm b.nm↔lt' a.nm b.nm):rowOf lt ls=rowOf lt' ls:=yz _ ls h
theorem Ax{lt lt':Nm→Nm→Prop}{row:List Ln}(h:∀a∈row,∀b∈row,lt a.nm b.nm↔lt' a.nm b.nm):jv lt row=jv lt' row:=by
 have e:ltAt lt row=ltAt lt' row:=by
  funext i j
  unfold ltAt
  apply propext
  exact⟨fun⟨a,b,h1,h2,h3⟩=>⟨a,b,h1,h2,(h a (V_ h1) b (V_ h2)).mp h3⟩,fun⟨a,b,h1,h2,h3⟩=>⟨a,b,h1,h2,(h a (V_ h1) b (V_ h2)).mpr h3⟩⟩
 unfold jv
 rw[e]
theorem KO{p:Str}{kn:Nat→Option Nm}:∀(r:List Str)(i j:Nat)(u:Option Nm)(acc:List Ln),(∀m,u=some m→(∃s,s<i∧kn s=some m)∨∃l'∈acc,l'.nm=m∧∀t r',r=t::r'→kn i=none→l'.lo=G0 kn r'.length i)→
  ∀l∈oB p kn i j u r,∀m b,l.up=some m→l.lo=some b→(∃s t,s<t∧kn s=some m∧kn t=some b)∨∃l'∈acc++oB p kn i j u r,l'.nm=m∧l'.lo=some b
 | [],_,_,_,_,_,l,hl,_,_,_,_=>by cases hl
 | t::r,i,j,u,acc,hu,l,hl,m,b,h1,h2=>by
  unfold oB at hl ⊢
  cases h:kn i with
  | some m'=>
   rw[h] at hl
   exact KO r (i+1) j (some m') acc (fun m e=>.inl ⟨i,by omega,by rw[h];exact e⟩) l hl m b h1 h2
  | none=>
   rw[h] at hl
   rcases W3.mp hl with rfl|hl
   ·obtain⟨z,Ld,_,Ul⟩:=vc h2
    rcases hu m h1 with⟨s,hs,e⟩|⟨l',nS,e1,e2⟩
    ·exact .inl ⟨s,z,by omega,e,Ul⟩
    ·exact .inr ⟨l',aal _ nS,e1,(e2 t r rfl h).trans h2⟩
   ·rcases KO r (i+1) (j+1) (some (p,j)) (acc++[⟨(p,j),t,u,G0 kn r.length i⟩]) (fun m e=>.inr ⟨⟨(p,j),t,u,G0 kn r.length i⟩,by simp,by cases e;rfl,fun t' r' e1 e2=>by
     show G0 kn r.length i=_
     rw[e1]
     show(match kn (i+1) with|some m=>some m|none=>G0 kn r'.length (i+1))=_
     rw[e2]⟩) l hl m b h1 h2 with z|⟨l',nS,z⟩
    ·exact .inl z
    ·refine .inr ⟨l',?_,z⟩
     rw[aaw] at nS
     exact nS
theorem KP{p:Str}{kn:Nat→Option Nm}:∀(r:List Str)(i j:Nat)(u:Option Nm),∀l∈oB p kn i j u r,∀b,l.lo=some b→∃t,kn t=some b
 | [],_,_,_,l,hl,_,_=>by cases hl
 | t::r,i,j,u,l,hl,b,e=>by
  unfold oB at hl
  cases h:kn i with
  | some m'=>
   rw[h] at hl
   exact KP r (i+1) j (some m') l hl b e
  | none=>
   rw[h] at hl
   rcases W3.mp hl with rfl|hl
   ·obtain⟨z,_,_,hz⟩:=vc e
    exact⟨z,hz⟩
   ·exact KP r (i+1) (j+1) (some (p,j)) l hl b e
theorem PL{row:List Ln}{qs:List (Nat×Nat)}{m:Nat}{R:Nm→Nm→Prop}(h:FY row.length m qs)(hr:row.Pairwise fun a b=>R a.nm b.nm){s t:Nat}{a b:Nm}(hs:l8 row qs s=some a)(ht:l8 row qs t=some b)(lG:s<t):R a b:=by
 obtain⟨q1,h1,e1,l1,r1,rfl⟩:=uu hs
 obtain⟨q2,h2,e2,l2,r2,rfl⟩:=uu ht
 have kU:q1.1<q2.1:=by
  obtain⟨i,hi,ei⟩:=List.mem_iff_getElem.mp h1
  obtain⟨j,hj,ej⟩:=List.mem_iff_getElem.mp h2
  have hp:=abg.mp h.1
  rcases Nat.lt_trichotomy i j with z|z|z
  ·have:=hp i j hi hj z;rw[ei,ej] at this;exact this.1
  ·subst z;rw[ei] at ej;subst ej;omega
  ·have:=hp j i hj hi z;rw[ei,ej] at this;omega
 obtain⟨g1,w1⟩:=List.getElem?_eq_some_iff.mp r1
 obtain⟨g2,w2⟩:=List.getElem?_eq_some_iff.mp r2
 have:=abg.mp hr _ _ g1 g2 kU
 rw[w1,w2] at this
 exact this
theorem Iy{D:Dk}(I:Inv D){s f x:Str}(hs:s∈D.stores)(hq:D.uv s f=[])(texts:List Str):Nw (gg (D.iz s) f) (kc x f (D.row s f) texts).ir:=by
 have rise:=pP ((D.row s f).map (·.tx)) texts
 rw[Tj] at rise
 have ch:=Inv.chain hq
 have lo:∀l∈oB x (l8 (D.row s f) (K01.kept ((D.row s f).map (·.tx)) texts)) 0 0 none texts,∀b,l.lo=some b→b∈(gg (D.iz s) f).map (·.nm):=fun l hl b e=>by
  obtain⟨t,h⟩:=KP texts 0 0 none l hl b e
  obtain⟨q,_,_,l,hl,rfl⟩:=uu h
  exact Wc ((j4 _ f).subset ((I.rJ s f).subset (V_ hl)))
 refine fun l hl=>⟨lo l hl,fun m b e1 e2=>?_⟩
 rcases KO texts 0 0 none [] (fun m e=>by cases e) l hl m b e1 e2 with⟨s',t,h1,h2,h3⟩|⟨l',h1,h2⟩
 ·exact .inl (PL (R:=fun a b=>Ah (gg (D.iz s) f) a b) rise ch h2 h3 h1)
 ·exact .inr ⟨l',h1,h2⟩
noncomputable def ki(ps:List Pt)(t:List Str):List Pt:=(lN ps.reverse t).reverse
theorem iT(ps:List Pt)(p:Pt)(t:List Str):ki (ps++[p]) t=if p.nm∈t then ki ps t else ki ps (match p.other with|some o=>o::t|none=>t)++[p]:=by
 unfold ki
 rw[List.reverse_append]
 show(lN (p::ps.reverse) t).reverse=_
 rw[show lN (p::ps.reverse) t=if p.nm∈t then lN ps.reverse t else p::lN ps.reverse (match p.other with|some o=>o::t|none=>t) from rfl]
 split
 ·rfl
 ·rw[abX]
theorem xn:∀(r:List Pt)(t t':List Str),(∀p∈r,p.nm∈t↔p.nm∈t')→lN r t=lN r t'
 | [],_,_,_=>rfl
 | p::r,t,t',h=>by
  show(if p.nm∈t then _ else _)=(if p.nm∈t' then _ else _)
  by_cases e:p.nm∈t
  ·rw[aap e,aap ((h p aat).mp e)]
   exact xn r t t' fun q hq=>h q (aad _ hq)
  ·rw[aak e,aak fun z=>e ((h p aat).mpr z)]
   refine aa4 (List.cons p) (xn r _ _ fun q hq=>?_)
   have:=h q (aad _ hq)
   cases p.other with
   | none=>exact this
   | some o=>show q.nm∈o::t↔q.nm∈o::t';rw[W3,W3,this]
theorem Ca{ps:List Pt}{t:List Str}(h:∀x∈t,x∉ps.map (·.nm)):ki ps t=live ps:=by
 unfold ki live
 rw[xn ps.reverse t [] fun p hp=>⟨fun z=>absurd (Wc (List.mem_reverse.mp hp)) (h _ z),fun z=>by cases z⟩]
noncomputable def Gu(ps:List Pt)(f:Str):List Ln:=rowOf (Ah (gg ps f)) (j_ ps f)
noncomputable def Hl(ps:List Pt)(f:Str):List (Nat×Nat):=jv (Ah (gg ps f)) (Gu ps f)
def Sm(ps qs:List Pt)(f:Str):Prop:=Gu ps f=Gu qs f∧Hl ps f=Hl qs f
theorem xo{lt:Nm→Nm→Prop}:∀(n:Nat)(ls:List Ln),∀l∈n4 lt n ls,l∈ls
 | 0,_,l,h=>by cases h
 | n+1,ls,l,h=>by
  unfold n4 at h
  cases e:ls.find? (free lt ls) with
  | none=>rw[e] at h;cases h
  | some o=>
   rw[e] at h
   rcases W3.mp h with rfl|h
   ·exact List.mem_of_find?_eq_some e
   ·exact(ZH.mp (xo n _ l h)).1
theorem wc{ps qs:List Pt}{f:Str}(h1:gg (live ps) f=gg (live qs) f)(h2:∀l∈gg (live qs) f,l.nm∈gone (live ps)↔l.nm∈gone (live qs))
  (h3:∀a∈gg (live qs) f,∀b∈gg (live qs) f,Ah (gg ps f) a.nm b.nm↔Ah (gg qs f) a.nm b.nm):Sm ps qs f:=by
 have hs:j_ ps f=j_ qs f:=by
  unfold j_
  rw[h1]
  refine List.filter_congr fun l hl=>?_
  rw[decide_eq_decide,h2 l hl]
 have hm:∀l∈j_ qs f,l∈gg (live qs) f:=fun l hl=>(ZH.mp hl).1
 have hr:Gu ps f=Gu qs f:=by
  unfold Gu
  rw[hs]
  exact E4 fun a ha b hb=>h3 a (hm a ha) b (hm b hb)
 refine⟨hr,?_⟩
 unfold Hl
 rw[hr]
 exact Ax fun a ha b hb=>h3 a (hm a (xo _ _ a ha)) b (hm b (xo _ _ b hb))
theorem Sm.trans{ps qs rs:List Pt}{f:Str}(h:Sm ps qs f)(h':Sm qs rs f):Sm ps rs f:=⟨h.1.trans h'.1,h.2.trans h'.2⟩
theorem jO(a b:List Pt)(f:Str):gg (a++b) f=gg a f++gg b f:=by unfold gg;rw[aaF,abk]
theorem k9(a b:List Pt):gone (a++b)=gone a++gone b:=by unfold gone;rw[abk]
def Bk(b:Pt):Prop:=b.file=none∧b.i3=[]
theorem wd{a:List Pt}{f:Str}(h:∀p∈a,p.file≠some f):gg a f=[]:=by
 unfold gg
 rw[ab3.mpr fun p hp=>by rw[aa2];exact h p hp];rfl
theorem yA{a:List Pt}(h:∀b∈a,Bk b)(f:Str):gg a f=[]:=wd fun p hp e=>by rw[(h p hp).1] at e;cases e
theorem zd{a:List Pt}(h:∀b∈a,Bk b):gone a=[]:=by
 unfold gone
 rw[List.flatMap_eq_nil_iff]
 exact fun p hp=>(h p hp).2
structure MR(P:List Pt)(px:Pt)(f0:Str):Prop where
 file:px.file=some f0
 other:px.other=none
 nw:Nw (gg P f0) px.ir
 cl:mZ (gg P f0)
 nd:(px.ir.map (·.nm)).Nodup
 dj:∀l∈px.ir,l.nm∉(gg P f0).map (·.nm)
 i3:∀f,f≠f0→∀l∈gg P f,l.nm∉px.i3
section
variable{P Zs Bs Na:List Pt}{px:Pt}{f0 f:Str}
theorem MR.lp(c:MR P px f0):gg [px] f0=px.ir:=by
 unfold gg
 rw[abA,aap (by rw[aa2];exact c.file)]
 simp
theorem MR.lpo(c:MR P px f0)(h:f≠f0):gg [px] f=[]:=wd fun p hp e=>by
 rw[Tq.mp hp,c.file] at e
 exact h (aau e).symm
theorem tw(ps:List Pt)(f:Str):∀l∈gg (live ps) f,l∈gg ps f:=(u_ (zM ps) f).subset
theorem Ay(c:MR P px f0)(hz:∀z∈Zs,z.file≠some f0∧∀l∈gg P f0,l.nm∉z.i3)(hb:∀b∈Bs,Bk b)(IX:∀b∈Na,Bk b)(hl:live (P++[px]++Zs++Bs)=live P++Zs++Na):Sm (P++[px]++Zs++Bs) P f0:=by
 have z0:gg Zs f0=[]:=wd fun z h=>(hz z h).1
 refine wc ?_ (fun l nS=>?_) (fun a ha b Lg=>?_)
 ·rw[hl,jO,jO,z0,yA IX];simp
 ·rw[hl,k9,k9,zd IX,aaa,W9]
  refine⟨fun h=>h.resolve_right fun h=>?_,.inl⟩
  obtain⟨z,Ld,Ul⟩:=aa5.mp h
  exact(hz z Ld).2 l (tw P f0 l nS) Ul
 ·rw[jO,jO,jO,z0,yA hb,c.lp,aaa,aaa]
  exact MQ c.cl c.nw c.nd c.dj (Wc (tw P f0 a ha)) (Wc (tw P f0 b Lg))
theorem uI(c:MR P px f0)(hf:f≠f0)(hz:∀l∈gg Zs f,l.nm∉px.i3)(hb:∀b∈Bs,Bk b)(IX:∀b∈Na,Bk b)(hl:live (P++[px]++Zs++Bs)=live P++Zs++Na)(hq:live (P++[px]++Zs)=live P++[px]++Zs):Sm (P++[px]++Zs++Bs) (P++[px]++Zs) f:=by
 refine wc ?_ (fun l nS=>?_) (fun a _ b _=>?_)
 ·rw[hl,hq,jO,jO,jO,jO,yA IX,c.lpo hf];simp
 ·rw[hq,jO,jO,c.lpo hf,aaa,W9] at nS
  rw[hl,hq,k9,k9,k9,k9,zd IX,aaa,W9,W9,W9]
  have hn:l.nm∉gone [px]:=fun h=>by
   have h:l.nm∈px.i3:=by simpa[gone] using h
   rcases nS with nS|nS
   ·exact c.i3 f hf l (tw P f l nS) h
   ·exact hz l nS h
  exact⟨fun h=>h.imp .inl id,fun h=>h.imp (fun h=>h.resolve_right hn) id⟩
 ·rw[jO _ Bs,yA hb,aaa]
theorem E5(c:MR P px f0)(hz:∀z∈Zs,z.file≠some f0∧∀l∈gg (P++[px]) f0,l.nm∉z.i3)(hb:∀b∈Bs,Bk b)(IX:∀b∈Na,Bk b)(hl:live (P++[px]++Zs++Bs)=live P++[px]++Zs++Na)(hq:live (P++[px])=live P++[px]):Sm (P++[px]++Zs++Bs) (P++[px]) f0:=by
 have z0:gg Zs f0=[]:=wd fun z h=>(hz z h).1
 refine wc ?_ (fun l nS=>?_) (fun a _ b _=>?_)
 ·rw[hl,hq,jO,jO,z0,yA IX];simp
 ·rw[hl,hq,k9 _ Na,k9 _ Zs,zd IX,aaa,W9]
  refine⟨fun h=>h.resolve_right fun h=>?_,.inl⟩
  obtain⟨z,Ld,Ul⟩:=aa5.mp h
  exact(hz z Ld).2 l (tw (P++[px]) f0 l nS) Ul
 ·rw[jO _ Bs,jO _ Zs,z0,yA hb,aaa,aaa]
theorem Az(hb:∀b∈Bs,Bk b)(IX:∀b∈Na,Bk b){Q:List Pt}(hl:live (Q++Bs)=live Q++Na):Sm (Q++Bs) Q f:=by
 refine wc ?_ (fun l nS=>?_) (fun a _ b _=>?_)
 ·rw[hl,jO,yA IX,aaa]
 ·rw[hl,k9,zd IX,aaa]
 ·rw[jO,yA hb,aaa]
theorem Iz(c:MR P px f0)(hf:f≠f0)(hq:live (P++[px])=live P++[px]):Sm (P++[px]) P f:=by
 refine wc ?_ (fun l nS=>?_) (fun a _ b _=>?_)
 ·rw[hq,jO,c.lpo hf,aaa]
 ·rw[hq,k9,W9]
  refine⟨fun h=>h.resolve_right fun h=>?_,.inl⟩
  exact c.i3 f hf l (tw P f l nS) (by simpa[gone] using h)
 ·rw[jO,c.lpo hf,aaa]
end
noncomputable def bk(y o:Str):Pt:=⟨y,none,[],[],some o⟩
theorem NG(y o:Str):Bk (bk y o):=⟨rfl,rfl⟩
theorem bks{l:List (Str×Str)}:∀b∈l.map fun q=>bk q.1 q.2,Bk b:=fun b hb=>by
 obtain⟨q,_,rfl⟩:=List.mem_map.mp hb
 exact NG _ _
section
variable{P Zs:List Pt}{px:Pt}
def ZK(Zs:List Pt)(t:List Str):Prop:=∀z∈Zs,z.other=none∧z.nm∉t
theorem MS{Q:List Pt}{t:List Str}:∀{Zs:List Pt},ZK Zs t→ki (Q++Zs) t=ki Q t++Zs:=by
 intro Zs
 generalize e:Zs.reverse=R
 induction R generalizing Zs with
 | nil=>
  intro _
  have:Zs=[]:=List.reverse_eq_nil_iff.mp e
  subst this
  rw[aaa,aaa]
 | cons z r ih=>
  intro h
  have e2:Zs=r.reverse++[z]:=by rw[←List.reverse_reverse Zs,e,abX]
  subst e2
  have hz:=h z (by simp)
  rw[←aaw,iT,aak hz.2,hz.1,ih (Zs:=r.reverse) (List.reverse_reverse r) (fun y hy=>h y (aal _ hy)),aaw]
theorem NH{t:List Str}(ho:px.other=none)(hP:∀y∈t,y∉P.map (·.nm))(hZ:ZK Zs t):ki (P++[px]++Zs) t=(if px.nm∈t then live P else live P++[px])++Zs:=by
 rw[MS hZ,iT,ho]
 show(if px.nm∈t then ki P t else ki P t++[px])++Zs=_
 rw[Ca hP]
variable{y2 y3 y4 y5:Str}(ho:px.other=none)(hP:∀y∈[px.nm,y2,y3,y4,y5],y∉P.map (·.nm))(hZ:∀z∈Zs,z.other=none∧z.nm∉[px.nm,y2,y3,y4,y5])(nd:[px.nm,y2,y3,y4,y5].Nodup)
include ho hP hZ nd
theorem NI:live (P++[px]++Zs)=live P++[px]++Zs:=by
 have:=NH (t:=[]) ho (fun y hy=>by cases hy) (P:=P) (Zs:=Zs) fun z hz=>⟨(hZ z hz).1,by simp⟩
 rw[aak (by simp)] at this
 exact this
theorem Hn{t:List Str}(ht:∀y∈t,y∈[px.nm,y2,y3,y4,y5]):ki (P++[px]++Zs) t=(if px.nm∈t then live P else live P++[px])++Zs:=
 NH ho (fun y hy=>hP y (ht y hy)) fun z hz=>⟨(hZ z hz).1,fun h=>(hZ z hz).2 (ht _ h)⟩
theorem Sx:live (P++[px]++Zs++[bk y2 px.nm])=live P++Zs++[bk y2 px.nm]:=by
 show ki _ []=_
 rw[iT,aak (by simp)]
 show ki _ [px.nm]++_=_
 rw[Hn ho hP hZ nd (by simp),aap (by simp)]
theorem Sy:live (P++[px]++Zs++[bk y2 px.nm,bk y3 y2])=live P++[px]++Zs++[bk y3 y2]:=by
 show ki _ []=_
 rw[show P++[px]++Zs++[bk y2 px.nm,bk y3 y2]=P++[px]++Zs++[bk y2 px.nm]++[bk y3 y2] by simp,iT,aak (by simp)]
 show ki _ [y2]++_=_
 rw[iT,aap (by simp[bk]),Hn ho hP hZ nd (by simp),aak (by simp at nd;simp;exact nd.1.1)]
theorem SA:live (P++[px]++Zs++[bk y2 px.nm,bk y3 y2,bk y4 y3])=live P++Zs++[bk y2 px.nm,bk y4 y3]:=by
 show ki _ []=_
 rw[show P++[px]++Zs++[bk y2 px.nm,bk y3 y2,bk y4 y3]=P++[px]++Zs++[bk y2 px.nm]++[bk y3 y2]++[bk y4 y3] by simp,iT,aak (by simp)]
 show ki _ [y3]++_=_
 rw[iT,aap (by simp[bk]),iT,aak (by simp at nd;simp[bk];exact nd.2.1.1)]
 show ki _ [px.nm,y3]++_++_=_
 rw[Hn ho hP hZ nd (by simp),aap (by simp)]
 simp
theorem SD:live (P++[px]++Zs++[bk y2 px.nm,bk y3 y2,bk y4 y3,bk y5 y4])=live P++[px]++Zs++[bk y3 y2,bk y5 y4]:=by
 show ki _ []=_
 rw[show P++[px]++Zs++[bk y2 px.nm,bk y3 y2,bk y4 y3,bk y5 y4]=P++[px]++Zs++[bk y2 px.nm]++[bk y3 y2]++[bk y4 y3]++[bk y5 y4] by simp,iT,aak (by simp)]
 show ki _ [y4]++_=_
 rw[iT,aap (by simp[bk]),iT,aak (by simp at nd;simp[bk];exact nd.2.2.1.1)]
 show ki _ [y2,y4]++_++_=_
 rw[iT,aap (by simp[bk]),Hn ho hP hZ nd (by simp),aak (by simp at nd;simp;exact⟨nd.1.1,nd.1.2.2.1⟩)]
 simp
end
structure we(D:Dk)(s f x:Str)(p:Pt):Prop where
 nm:p.nm=x
 file:p.file=some f
 other:p.other=none
 nw:Nw (gg (D.iz s) f) p.ir
 nd:(p.ir.map (·.nm)).Nodup
 own:∀l∈p.ir,l.nm.1=x
 i3:∀m∈p.i3,m∈(gg (D.iz s) f).map (·.nm)
section
variable{D:Dk}{s o f f' x:Str}
theorem KQ(I:Inv D){m:Nm}(h:m∈(D.row s f).map (·.nm)):m∈(gg (D.iz s) f).map (·.nm):=by
 obtain⟨l,hl,rfl⟩:=List.mem_map.mp h
 exact Wc ((j4 _ f).subset ((I.rJ s f).subset hl))
theorem Gv(I:Inv D)(hs:s∈D.stores)(hq:D.uv s f=[])(texts:List Str):we D s f x (kc x f (D.row s f) texts):=by
 have e:(kc x f (D.row s f) texts).ir.map (·.nm)=(List.range (kc x f (D.row s f) texts).ir.length).map fun j=>(x,j):=by
  show(jD x texts _).map (·.nm)=(List.range (jD x texts _).length).map fun j=>(x,j)
  unfold jD
  rw[rH,←abR]
 refine⟨rfl,rfl,rfl,Iy I hs hq texts,?_,fun l hl=>?_,fun m hm=>?_⟩
 ·rw[e]
  exact List.Pairwise.map _ (fun a b h z=>h (Prod.mk.inj z).2) List.nodup_range
 ·have:=Wc (f:=(·.nm)) hl
  rw[e] at this
  obtain⟨j,_,z⟩:=List.mem_map.mp this
  rw[←z]
 ·obtain⟨l,hl,rfl⟩:=List.mem_map.mp hm
  exact KQ I (Wc (ZH.mp hl).1)
theorem MT(I:Inv D){ms:List Nm}(hm:∀m∈ms,m∈(D.row s f).map (·.nm)):we D s f x ⟨x,some f,[],ms,none⟩:=
 ⟨rfl,rfl,rfl,fun l hl=>(by cases hl),aa6,fun l hl=>(by cases hl),fun m h=>KQ I (hm m h)⟩
theorem E6(I:Inv D){l:Ln}(h:l∈gg (D.iz s) f):l.nm.1∈D.names:=by
 obtain⟨p,hp,_,hl⟩:=i4.mp h
 rw[n5 (I.Fq p (ZH.mp hp).1) (Wc hl)]
 exact Wc (ZH.mp hp).1
theorem IA(I:Inv D){l l':Ln}(h:l∈gg (D.iz s) f)(h':l'∈gg (D.iz o) f')(e:l.nm=l'.nm):f=f':=by
 obtain⟨p,hp,hf,hl⟩:=i4.mp h
 obtain⟨p',WJ,hf',nS⟩:=i4.mp h'
 have hm:=(ZH.mp hp).1
 have LF:=(ZH.mp WJ).1
 have:=Ml I.nd hm LF (by rw[←n5 (I.Fq p hm) (Wc hl),←n5 (I.Fq p' LF) (Wc nS),e])
 subst this
 rw[hf] at hf'
 exact aau hf'
theorem we.Cb{p:Pt}(c:we D s f x p)(I:Inv D)(hf:f'≠f){l:Ln}(h:l∈gg (D.iz o) f'):l.nm∉p.i3:=fun z=>by
 obtain⟨l',nS,e⟩:=List.mem_map.mp (c.i3 _ z)
 exact hf (IA I h nS e.symm)
theorem we.chg{p:Pt}(c:we D s f x p)(I:Inv D)(ho:o∈D.stores)(sub:∀y∈D.held s,y∈D.held o)(fresh:x∉D.names):MR (D.iz o) p f where
 file:=c.file
 other:=c.other
 nw:=c.nw.mono fun l hl=>by
  obtain⟨p,hp,h1,h2⟩:=i4.mp hl
  obtain⟨h3,h4⟩:=ZH.mp hp
  exact i4.mpr ⟨p,ZH.mpr ⟨h3,ZF (sub _ (aaA h4))⟩,h1,h2⟩
 cl:=I.closed ho f
 nd:=c.nd
 dj:=fun l hl z=>by
  obtain⟨l',nS,e⟩:=List.mem_map.mp z
  have:=E6 I nS
  rw[e,c.own l hl] at this
  exact fresh this
 i3:=fun f' hf l hl=>c.Cb I hf hl
theorem E7{p:Pt}(hp:p.nm∉D.names):D.made.filter (fun q=>decide (q.nm∈(D.keep s p).held s))=D.iz s:=by
 unfold Dk.iz
 refine List.filter_congr fun q hq=>?_
 rw[decide_eq_decide]
 show q.nm∈(if s=s then D.held s++[p.nm] else D.held s)↔_
 rw[aap rfl,W9,Tq]
 exact⟨fun z=>z.resolve_right fun e=>hp (e▸Wc hq),.inl⟩
theorem wg{p:Pt}(hp:p.nm∉D.names):(D.keep s p).iz s=D.iz s++[p]:=by
 rw[←E7 (s:=s) hp]
 unfold Dk.iz
 show(D.made++[p]).filter _=_
 rw[aaF]
 congr 1
 have:decide (p.nm∈(D.keep s p).held s)=true:=by
  rw[aa2]
  show p.nm∈(if s=s then D.held s++[p.nm] else D.held s)
  rw[aap rfl];simp
 rw[abA,aap this];rfl
theorem KR{D2:Dk}{px:Pt}{Zs:List Pt}{y:Str}(hm:D2.made=D.made++[px]++Zs++[bk y px.nm])(hh:∀z,z∈D2.held o↔z∈D.held o∨z=px.nm∨z=y)(hx:px.nm∉D.names)(hy:y∉D.names)(hz:∀z∈Zs,z.nm∉D.held o∧z.nm≠px.nm∧z.nm≠y):D2.iz o=D.iz o++[px]++[bk y px.nm]:=by
 unfold Dk.iz
 rw[hm,aaF,aaF,aaF]
 have e1:D.made.filter (fun p=>decide (p.nm∈D2.held o))=D.made.filter (fun p=>decide (p.nm∈D.held o)):=List.filter_congr fun q hq=>by
  have hqn:q.nm∈D.names:=Wc hq
  rw[decide_eq_decide,hh]
  exact⟨fun z=>z.resolve_right fun z=>z.elim (fun e=>hx (e▸hqn)) fun e=>hy (e▸hqn),.inl⟩
 have e2:[px].filter (fun p=>decide (p.nm∈D2.held o))=[px]:=by
  rw[abA,aap (by rw[aa2,hh];exact .inr (.inl rfl))];rfl
 have e3:Zs.filter (fun p=>decide (p.nm∈D2.held o))=[]:=ab3.mpr fun z h=>by
  rw[aa2,hh]
  obtain⟨a,b,c⟩:=hz z h
  exact fun w=>w.elim a fun w=>w.elim b c
 have e4:[bk y px.nm].filter (fun p=>decide (p.nm∈D2.held o))=[bk y px.nm]:=by
  rw[abA,aap (by rw[aa2,hh];exact .inr (.inr rfl))];rfl
 rw[e1,e2,e3,e4,aaa]
end
end PM
namespace PK
open PySem L2 PM
open Kp (ku iG)
def One(H0 H:Hp)(row:List Ln)(qu:List (Nat×Nat))(v:V):Prop:=∃u r c qs,v=.ref u∧H0 u=none∧H0 r=none∧H0 c=none∧H u=some (.lst [.ref r,.ref c])∧As H r row∧H c=some (.lst qs)∧iG H qu qs
theorem One.same{H0 H H':Hp}{row:List Ln}{qu:List (Nat×Nat)}{v:V}(o:One H0 H row qu v)(s:gm H H'):One H0 H' row qu v:=by
 obtain⟨u,r,c,qs,e,h1,h2,h3,h4,h5,h6,h7⟩:=o
 refine⟨u,r,c,qs,e,h1,h2,h3,s _ _ h4,h5.same s,s _ _ h6,Paired.jZ h7 fun q v ⟨a,e,h⟩=>⟨a,e,s _ _ h⟩⟩
noncomputable def IB(row:List Ln)(qu:List (Nat×Nat)):Dv:=.l [PJ row,Wq qu]
theorem One.rep{H0 H:Hp}{row:List Ln}{qu:List (Nat×Nat)}{v:V}(o:One H0 H row qu v):Rep H 3 v (IB row qu):=by
 obtain⟨u,r,c,qs,rfl,h1,h2,h3,h4,h5,h6,h7⟩:=o
 exact Rep.two h4 h5.rep (Iw h6 h7)
section
variable{P:Program}{w:World}{K:Qqy}{mg:Qqx}{base:Heap}{A:Ad}
def PN(A:Ad):Sp:=fun vs H Q _=>∃(d fs:Addr)(D:Dk)(W:Addr→Prop)(s:Str)(files:List Str),vs=[.ref d,.str s,.ref fs]∧ia A H d D W∧Inv D∧Small D.made∧s∈D.stores∧kI s∧H fs=some (.lst (gp files))∧files.length≤1000∧∀p H1 vs,gm H H1→H1 p=none→Paired (fun v f=>One H H1 (D.row s f) (D.uv s f) v) vs files→Q (.ref p) (upd H1 p (.lst vs))
theorem MU(T:Txt mg)(O:Ok K mg A):ip P w K mg base mU 7 A.yv A.yw ["desk","store","files"] (PN A):=by
 have oz:=(@Gm P w K mg base A T O).DR
 have kj:=(@sN P w K mg base A T O).DR
 refine O.kT.f.rl vD fun js A0 outer s H vs Q E hr h=>?_
 obtain⟨d,fs,D,W,st,files,rfl,X,I,sm,hs,Ck,yD,hfl,q⟩:=h
 obtain⟨π,y⟩:=id X
 have sz:sizeLine=16777216:=aaB
 refine⟨_,(fT (h_ (xK xU (gc oV).names [3] rfl (iq (pv 2)) rfl (by decide+kernel) (fun _ _ _ _=>(iF (i:=3) vD.nd rfl (Or.inl rfl))) (fun _ _ _ _=>mj) (fun _ _ _ _=>A6 (iW (a_ (uS (pv 0) O.gC O.vQ oz hr (a_ (pv 1) (a_ (pv 3) d_))) (a_ (uS (pv 0) O.gC O.mG kj hr (a_ (pv 1) (a_ (pv 3) d_))) d_))))))),?_⟩
 let Jv:=fun(i:Nat) (ys:List V) (σ:St) (H4:Hp)=>∃(v3:Option V),σ=[rr d,rs st,rr fs,v3]∧gm H H4∧Paired (fun v f=>One H H4 (D.row st f) (D.uv st f) v) ys (files.take i)
 refine⟨_,rfl,fs,rfl,⟨_,hE.of yD⟩,kx (K:=K) (a:=fs) (xs:=gp files) (by rw[Tj];omega) Jv
  ⟨none,rfl,gm.refl _,.nil⟩ (by rintro _ _ _ _ _ ⟨_,_,e,e2⟩;exact⟨hE.of (e _ _ yD),by rw[aaq e2,aaD];omega⟩) ?_ ?_⟩
 ·rintro i v ys σ H4 hx ⟨v3,rfl,s4,e2⟩
  obtain⟨f,hf,rfl⟩:=lb hx
  refine⟨_,rfl,d,π.dx,_,rfl,s4 _ _ y.hd,Gj,_,rfl,_,rfl,d,D,W,st,f,rfl,X.same s4,Ck,sm,I,fun h=>absurd hs h,fun _ r H5 Lo sS A2=>?_⟩
  have s5:=s4.trans Lo
  refine⟨_,rfl,d,π.dx,_,rfl,s5 _ _ y.hd,sM,_,rfl,_,rfl,d,D,W,st,f,rfl,X.same s5,Ck,sm,I,fun h=>absurd hs h,fun _ c H6 qs Ja T7 Tv hc2=>⟨L2.j0,fun u hu=>?_⟩⟩
  have Vr:gm H6 (upd H6 u (.lst [.ref r,.ref c])):=(gm.refl H6).new hu
  have s47:=(Lo.trans Ja).trans Vr
  refine⟨_,rfl,s4.trans s47,?_⟩
  rw[take_snoc hf]
  refine iC (Paired.jZ e2 fun _ _ z=>z.same s47) ?_
  exact⟨u,r,c,qs,rfl,((s5.trans Ja)).free hu,s4.free sS,s5.free T7,b_,(A2.same Ja).same Vr,Vr _ _ Tv,Paired.jZ hc2 fun q v ⟨a,e,h⟩=>⟨a,e,Vr _ _ h⟩⟩
 ·rintro ys σ H4 ⟨v3,rfl,s4,e2⟩ p hp
  rw[Tj,aas] at e2
  exact q p H4 ys s4 hp e2
end
end PK
namespace L2
theorem Wr{t0 t1 t2 t3 t4 t5 t6 t7 t8 t9 t10 t11 t12 t13 t14 t15 t16 t17 t18 t19 t20 t21 t22:TS}{D:Ends}{σ:St}{H:Hp}(h:let v22:=t22;let v21:=ic t21 v22;let v20:=ic t20 v21;let v19:=ic t19 v20;let v18:=ic t18 v19;let v17:=ic t17 v18;let v16:=ic t16 v17;let v15:=ic t15 v16;let v14:=ic t14 v15;let IQ:=ic t13 v14;let v12:=ic t12 IQ;let v11:=ic t11 v12;let v10:=ic t10 v11;let v9:=ic t9 v10;let v8:=ic t8 v9;let v7:=ic t7 v8;let v6:=ic t6 v7;let v5:=ic t5 v6;let v4:=ic t4 v5;let v3:=ic t3 v4;let v2:=ic t2 v3;let v1:=ic t1 v2;ic t0 v1 D σ H):ic t0 (ic t1 (ic t2 (ic t3 (ic t4 (ic t5 (ic t6 (ic t7 (ic t8 (ic t9 (ic t10 (ic t11 (ic t12 (ic t13 (ic t14 (ic t15 (ic t16 (ic t17 (ic t18 (ic t19 (ic t20 (ic t21 t22))))))))))))))))))))) D σ H:=h
end L2
namespace PK
open PySem L2 PM
open Kp (ku iG)
theorem eq_nil{K:Qqy}{H:Hp}{n:Nat}{a c:Addr}(h1:H a=some (.lst []))(h2:H c=some (.lst [])):oA K H (n+1) (.ref a) (.ref c) true:=
 oA.lists (e:=fun _=>true) (hE.of h1) (hE.of h2) rfl fun j u v h=>by simp at h
section
variable{P:Program}{w:World}{K:Qqy}{mg:Qqx}{base:Heap}{A:Ad}
def KS(A:Ad):Sp:=fun vs H Q _=>∃(d:Addr)(D:Dk)(W:Addr→Prop)(k:Nat)(s f x:Str)(c:Int),vs=[.ref d,.str s,.str f,.str x,.int c]∧ia A H d D W∧Inv D∧Sz k D∧k<36∧s∈D.stores∧kI s∧Good f∧Good x∧x∉D.names∧
 ∀H' p,we D s f x p→ia A H' d (D.keep s p) W→lZ W H H'→Inv (D.keep s p)→Sz (k+1) (D.keep s p)→Q .jo H'
theorem IC(T:Txt mg)(O:Ok K mg A):ip P w K mg base mU 7 A.tX A.tY ["desk","store","file","name","cell"] (KS A):=by
 have oz:=(@Gm P w K mg base A T O).DR
 have kj:=(@sN P w K mg base A T O).DR
 have pE:=(@B8 P w K mg base A T O).DR
 have uK:=(@KH P w K mg base A T O).DR
 have sT:=@Hj P w K mg base A T O
 refine O.sA.f.rl oq fun js A0 outer s H vs Q E hr h=>?_
 obtain⟨d,D,W,k,st,f,x,c,rfl,X,I,z,hk,xx,Ck,gf,gx,hx,q⟩:=h
 obtain⟨π,y⟩:=id X
 have sz:sizeLine=16777216:=aaB
 have sm:=z.small (by omega)
 refine⟨_,(de (zx (j:=5) tS (gc mF).names [6] oq.nd rfl rfl rfl (iq (uS (pv 0) O.gC O.vQ oz hr (a_ (pv 1) (a_ (pv 2) d_)))) rfl (by decide+kernel) (fun _ _ _ _=>(iF (i:=6) oq.nd rfl (Or.inl rfl))) (fun _ _ _ _=>mj) (fun _ _ _ _=>A6 (jS nU (pv 6) f_ (fun _ _=>rfl))))
   (fT (iy (ik (FO 5 (by exact OP hr)) (uS (pv 0) O.gC O.mG kj hr (a_ (pv 1) (a_ (pv 2) d_))) (iW d_) (iE _)) (fT (g_ (uS (pv 0) O.gC O.sy pE hr (a_ (pv 1) (a_ (pv 3) (a_ (pv 2) (a_ (ml O.xh sT hr (a_ (pv 5) (a_ (pv 4) d_))) d_))))))) (fT (g_ (uS (pv 0) O.gC O.Aj uK hr (a_ (pv 1) (a_ (pv 3) (a_ (pv 2) (a_ (iW (a_ (gs iD (pv 4) (gF gz (by rfl) T.jH aay (a_ (pv 5) d_))) d_)) d_)))))))))),?_⟩
 refine JC ?_;intro _
 refine⟨_,rfl,d,π.dx,_,rfl,y.hd,Gj,_,rfl,_,rfl,d,D,W,st,f,rfl,X,Ck,sm,I,fun h=>absurd xx h,fun _ r H1 s1 sS ⟨vs,A2,Dt⟩=>?_⟩
 have Fb:=z.row I st f
 have Yg:=aaq Dt
 let Jv:=fun(i:Nat) (ys:List V) (σ:St) (H4:Hp)=>∃(v6:Option V),σ=[rr d,rs st,rs f,rs x,ri c,none,v6]∧H4=H1∧ys=gp (((D.row st f).take i).map (·.tx))
 refine⟨r,rfl,⟨_,hE.of A2⟩,kx (K:=K) (a:=r) (xs:=vs) (by omega) Jv
  ⟨none,rfl,rfl,rfl⟩ (by rintro _ _ _ _ _ ⟨_,_,e,e2⟩;rw[e,e2];exact⟨hE.of A2,by rw[Tj,Tj,aaD];omega⟩) ?_ ?_⟩
 ·rintro i v ys σ H4 hx ⟨v6,rfl,rfl,rfl⟩
  obtain⟨ln,uJ,t,rfl,ht⟩:=iw Dt hx
  refine⟨_,rfl,t,_,_,_,rfl,rfl,rn.of ht,gH (j:=2) rfl rfl,_,rfl,rfl,?_⟩
  rw[take_snoc uJ,aar,jg]
  rfl
 rintro ys σ H4 ⟨v6,rfl,rfl,rfl⟩ Lp Qj
 rw[Yg,aas]
 have s2:=s1.new (o:=.lst (gp ((D.row st f).map (·.tx)))) Qj
 have Lq:(upd H4 Lp (.lst (gp ((D.row st f).map (·.tx))))) Lp=some (.lst (gp ((D.row st f).map (·.tx)))):=b_
 generalize upd H4 Lp (.lst (gp ((D.row st f).map (·.tx))))=H2 at s2 Lq
 have X2:=X.same s2
 have AF:(((D.row st f).map (·.tx)).length:Int)=((D.row st f).length:Int):=by rw[Tj]
 have el:∀l:List Str,((gp l).length:Int)=(l.length:Int):=fun l=>by simp
 refine⟨_,rfl,d,π.dx,_,rfl,s2 _ _ y.hd,sM,_,rfl,_,rfl,d,D,W,st,f,rfl,X2,Ck,sm,I,fun h=>absurd xx h,fun _ p H5 qs Lo tE Le zf=>⟨L2.j0,fun e he=>?_⟩⟩
 have Ja:=Lo.trans ((gm.refl H5).new (o:=.lst []) he)
 have s5:=s2.trans Ja
 have Lr:=Ja _ _ Lq
 have I_:=aaq zf
 cases qs with
 | nil=>
  have hq:D.uv st f=[]:=aaK.mp I_
  refine⟨_,⟨p,e,rfl,rfl⟩,eq_nil (il he Le) b_,_,rfl,l7 ?_⟩
  refine⟨_,rfl,d,π.dx,_,rfl,s5 _ _ y.hd,B3,_,rfl,_,rfl,_,rfl,_,rfl,_,rfl,Lp,(D.row st f).map (·.tx),c,rfl,Lr,by rw[Tj];omega,fun t H6 ts Ja IP ed=>?_⟩
  have s6:=s5.trans Ja
  have P9:=ed.len
  rw[Tj] at P9
  refine⟨d,t,D,W,st,x,f,ts,rfl,X.same s6,I,sm,aac z.ir (by omega),Ck,gx.ke,gf.ke,IP,by omega,fun h=>absurd xx h,fun _ h=>absurd ⟨gx,gf⟩ h,fun _ _ _ h=>absurd h hx,fun _ _ _ _ h=>absurd hq h,fun _ _ _ _ _ h=>absurd h ed.ne,fun _ _ _ _ _ _ H' X' s'=>?_⟩
  exact q H' _ (Gv I xx hq ts) X' (fun b o e n=>s' b o (s6 _ _ e) n) (I.record xx hx hq ts) (z.keep st (B9 ed) (aac qI.2 (by omega)))
 | cons q0 qr=>
  have hq:D.uv st f≠[]:=fun e=>by rw[e] at I_;cases I_
  refine⟨_,⟨p,e,rfl,rfl⟩,oA.Jy (hE.of (il he Le)) (hE.of b_) (by simp),_,rfl,jz ?_⟩
  have Uh:0<(D.row st f).length:=by
   rcases Nat.eq_zero_or_pos (D.row st f).length with e|e
   ·exfalso
    apply hq
    show jv _ (D.row st f)=[]
    rw[aaK.mp e]
    rfl
   ·exact e
  have b3:=mod_lt c ((D.row st f).length:Int) (by omega)
  refine⟨_,rfl,d,π.dx,_,rfl,s5 _ _ y.hd,Ky,_,rfl,_,rfl,_,rfl,_,rfl,_,rfl,Lp,_,rfl,.inl (hE.of Lr),_,_,rfl,rfl,(by rw[el,AF];omega),L2.j0,fun t ht=>?_⟩
  have s6:=s5.new (o:=.lst [V.int (c%((gp ((D.row st f).map (·.tx))).length:Int))]) ht
  refine⟨d,t,D,W,st,x,f,[c%((gp ((D.row st f).map (·.tx))).length:Int)],rfl,X.same s6,I,sm,Ck,gx.ke,gf.ke,b_,by show 1≤1000;decide,fun p hp=>?_,fun h=>absurd xx h,fun _ h=>absurd ⟨gx,gf⟩ h,fun _ _ _ h=>absurd h hx,fun _ _ _ _ h=>absurd ?_ h,(fun _ _ _ _ h=>by cases h),fun _ _ _ _ ok _ H' X' s'=>?_⟩
  ·rw[Tq.mp hp,el,AF]
   refine abc (m:=108) ?_ (by decide)
   exact aac (Nat.log2_le_self _) (by omega)
  ·rw[el,AF]
   exact⟨⟨b3.1,b3.2⟩,trivial⟩
  ·have hm:∀m∈[c%((gp ((D.row st f).map (·.tx))).length:Int)].filterMap (fun p=>((D.row st f)[p.toNat]?).map (·.nm)),m∈(D.row st f).map (·.nm):=fun m hm=>by
    obtain⟨pl,_,qg⟩:=abM.mp hm
    obtain⟨l',nS,rfl⟩:=Option.map_eq_some_iff.mp qg
    exact Wc (V_ nS)
   exact q H' _ (MT I hm) X' (fun b o e n=>s' b o (s6 _ _ e) n) (I.cut xx hx hm) (z.keep st (aaI _) (aac (abY _ _) (by show 1≤_;omega)))
theorem Rep.Gw{H:Hp}{n:Nat}{v:V}{xs:List Dv}(r:Rep H n v (.l xs)):∃a vs m,v=.ref a∧H a=some (.lst vs)∧vs.length=xs.length∧∀(j:Nat) u d,vs[j]?=some u→xs[j]?=some d→Rep H m u d:=by
 cases r with
 | l h hl hr=>exact⟨_,_,_,rfl,h,hl,hr⟩
theorem Rep.SE{H:Hp}{n:Nat}{v:V}{xs:List Dv}(r:Rep H n v (.t xs)):∃a vs m,v=.ref a∧H a=some (.tup vs)∧vs.length=xs.length∧∀(j:Nat) u d,vs[j]?=some u→xs[j]?=some d→Rep H m u d:=by
 cases r with
 | t h hl hr=>exact⟨_,_,_,rfl,h,hl,hr⟩
theorem Rep.SF{H:Hp}{n:Nat}{v:V}{x:Str}(r:Rep H n v (.s x)):v=.str x:=by cases r;rfl
theorem Rep.PQ{H:Hp}{n:Nat}{v:V}{x:Int}(r:Rep H n v (.i x)):v=.int x:=by cases r;rfl
theorem Rep.SG{H:Hp}{n:Nat}{v:V}{x z:Str}{k:Int}(r:Rep H n v (.t [.s x,.i k,.s z])):∃a,v=.ref a∧H a=some (.tup [.str x,.int k,.str z]):=by
 obtain⟨a,vs,m,e,h,hl,hr⟩:=r.SE
 match vs,hl,hr,h with
 | [u1,u2,u3],_,hr,h=>
  have e1:=(hr 0 u1 _ rfl rfl).SF
  have e2:=(hr 1 u2 _ rfl rfl).PQ
  have e3:=(hr 2 u3 _ rfl rfl).SF
  subst e1 e2 e3
  exact⟨a,e,h⟩
theorem Rep.SH{H:Hp}{n:Nat}{v:V}{x z:Int}(r:Rep H n v (.t [.i x,.i z])):∃a,v=.ref a∧H a=some (.tup [.int x,.int z]):=by
 obtain⟨a,vs,m,e,h,hl,hr⟩:=r.SE
 match vs,hl,hr,h with
 | [u1,u2],_,hr,h=>
  have e1:=(hr 0 u1 _ rfl rfl).PQ
  have e2:=(hr 1 u2 _ rfl rfl).PQ
  subst e1 e2
  exact⟨a,e,h⟩
theorem KU:W.kitOne K (.type "list") (.type "list")=some true:=aap (by decide)
theorem KW:W.kitOne K (.type "str") (.type "str")=some true:=aap (by decide)
theorem KY:W.kitOne K (.type "tuple") (.type "tuple")=some true:=aap (by decide)
theorem PR:W.kitOne K (.type "int") (.type "int")=some true:=aap (by decide)
theorem PU:W.kitOne K (.type "int") (.type "bool")=some false:=by kernel_rfl
def MV:Sp:=fun vs H Q _=>∃i:Int,vs=[.int i]∧Q (.bl true) H
theorem E8(T:Txt mg)(O:Ok K mg A):ip P w K mg base mU 1 A.vM A.vN ["found"] MV:=by
 refine O.qE.f.rl A9 fun js A outer s H vs Q E hr h=>?_
 obtain⟨i,rfl,q⟩:=h
 refine⟨_,(fT (h_ (Of (gF j1 (by rfl) T.jI aaU (a_ (pv 0) (a_ (oH (v:=.ty "int") (by rfl) T.R5 PyProof.Rows.boot_int rfl) d_))) (Oe (Og (gF j1 (by rfl) T.jI aaU (a_ (pv 0) (a_ (oH (v:=.ty "bool") (by rfl) T.O3 PyProof.Rows.boot_bool rfl) d_)))))))),?_⟩
 refine⟨_,rfl,_,_,_,_,rfl,.int i,PR,_,rfl,l7 ?_⟩
 exact⟨_,rfl,_,_,_,_,rfl,.int i,PU,_,rfl,q⟩
def ID:Sp:=fun vs H Q _=>∃(v:V)(n:Nat)(row:List Ln),vs=[v]∧Rep H n v (PJ row)∧Q (.bl true) H
theorem E9(T:Txt mg)(O:Ok K mg A):ip P w K mg base mU 2 A.qZ A.q8 ["row"] ID:=by
 have nO:=@E8 P w K mg base A T O
 refine O.ua.f.rl pS fun js A outer s H vs Q E hr h=>?_
 obtain⟨v,n,row,rfl,rp,q⟩:=h
 obtain⟨p,ps,m,rfl,hp,hl,Yi⟩:=rp.Gw
 refine⟨_,(de (iy (ll (mf (gF j1 (by rfl) T.jI aaU (a_ (pv 0) (a_ (oH (v:=.ty "list") (by rfl) T.zX ab4 rfl) d_))))) (fT (h_ kW)) hX)
   (de (iH aaz rfl (iq (pv 0)) (tM 1 pS) (de (iy ((pw_or (ll (mf (gF j1 (by rfl) T.jI aaU (a_ (pv 1) (a_ (oH (v:=.ty "tuple") (by rfl) T.G4 PyProof.Rows.boot_tuple rfl) d_))))) (pw_or (ik GN (gF gz (by rfl) T.jH aay (a_ (pv 1) d_)) f_ (iE _)) (pw_or1 (ll (mf (gF j1 (by rfl) T.jI aaU (a_ (jS nU (pv 1) f_ (fun _ _=>rfl)) (a_ (oH (v:=.ty "str") (by rfl) T.Nx PyProof.Rows.boot_str rfl) d_)))))))).pt) (fT (h_ kW)) hX)
   (fT (iy ((pw_or (ll (mf (ml O.qE nO hr (a_ (jS nU (pv 1) f_ (fun _ _=>rfl)) d_)))) (pw_or1 (ll (mf (gF j1 (by rfl) T.jI aaU (a_ (jS nU (pv 1) f_ (fun _ _=>rfl)) (a_ (oH (v:=.ty "str") (by rfl) T.Nx PyProof.Rows.boot_str rfl) d_))))))).pt) (fT (h_ kW)) hX))))
   (fT (h_ kW)))),?_⟩
 refine Fp ?_;intro _ _
 refine⟨_,rfl,_,_,_,_,rfl,.lst hp,KU,_,rfl,jz ?_⟩
 let Jv:=fun(i:Nat) (σ:St) (H2:Hp)=>∃v,σ=[rr p,v]∧H2=H
 refine⟨_,rfl,p,rfl,⟨_,hE.of hp⟩,i0 (K:=K) (a:=p) (xs:=ps) Jv ⟨none,rfl,rfl⟩ (by rintro _ _ _ _ ⟨_,_,e⟩;rw[e];exact hE.of hp) ?_ ?_⟩
 ·rintro i y σ H2 hi ⟨v,rfl,rfl⟩
  have kU:=(List.getElem?_eq_some_iff.mp hi).1
  rw[hl,Tj] at kU
  have uJ:(row.map fun l=>Dv.t [.s l.nm.1,.i l.nm.2,.s l.tx])[i]?=some (.t [.s row[i].nm.1,.i row[i].nm.2,.s row[i].tx]):=by rw[aam,Wd kU];rfl
  obtain⟨a,rfl,ha⟩:=(Yi i y _ hi uJ).SG
  refine⟨_,rfl,_,_,_,_,rfl,.tup ha,KY,_,rfl,jz ?_⟩
  refine⟨_,rfl,a,_,rfl,.inr (rn.of ha),rfl,_,rfl,JJ (by rfl) ?_⟩
  refine⟨_,rfl,a,_,_,_,rfl,rfl,rn.of ha,gH (j:=0) rfl rfl,_,_,_,_,rfl,.str _,KW,_,rfl,jz ?_⟩
  refine⟨_,rfl,a,_,_,_,rfl,rfl,rn.of ha,gH (j:=1) rfl rfl,_,rfl,_,rfl,jz ?_⟩
  refine⟨_,rfl,a,_,_,_,rfl,rfl,rn.of ha,gH (j:=2) rfl rfl,_,_,_,_,rfl,.str _,KW,_,rfl,jz ?_⟩
  exact⟨_,rfl,rfl⟩
 ·rintro σ H2 ⟨v,rfl,rfl⟩
  exact q
def E_:Sp:=fun vs H Q _=>∃(v:V)(n:Nat)(qs:List (Nat×Nat)),vs=[v]∧Rep H n v (Wq qs)∧Q (.bl true) H
theorem Bo(T:Txt mg)(O:Ok K mg A):ip P w K mg base mU 2 A.o7 A.o8 ["found"] E_:=by
 have nO:=@E8 P w K mg base A T O
 refine O.rf.f.rl om fun js A outer s H vs Q E hr h=>?_
 obtain⟨v,n,row,rfl,rp,q⟩:=h
 obtain⟨p,ps,m,rfl,hp,hl,Yi⟩:=rp.Gw
 refine⟨_,(de (iy (ll (mf (gF j1 (by rfl) T.jI aaU (a_ (pv 0) (a_ (oH (v:=.ty "list") (by rfl) T.zX ab4 rfl) d_))))) (fT (h_ kW)) hX)
   (de (iH aaz rfl (iq (pv 0)) (tM 1 om) (fT (iy ((pw_or (ll (mf (gF j1 (by rfl) T.jI aaU (a_ (pv 1) (a_ (oH (v:=.ty "tuple") (by rfl) T.G4 PyProof.Rows.boot_tuple rfl) d_))))) (pw_or (ik GN (gF gz (by rfl) T.jH aay (a_ (pv 1) d_)) f_ (iE _)) (pw_or (ll (mf (ml O.qE nO hr (a_ (jS nU (pv 1) f_ (fun _ _=>rfl)) d_)))) (pw_or1 (ll (mf (ml O.qE nO hr (a_ (jS nU (pv 1) f_ (fun _ _=>rfl)) d_)))))))).pt) (fT (h_ kW)) hX)))
   (fT (h_ kW)))),?_⟩
 refine Fp ?_;intro _ _
 refine⟨_,rfl,_,_,_,_,rfl,.lst hp,KU,_,rfl,jz ?_⟩
 let Jv:=fun(i:Nat) (σ:St) (H2:Hp)=>∃v,σ=[rr p,v]∧H2=H
 refine⟨_,rfl,p,rfl,⟨_,hE.of hp⟩,i0 (K:=K) (a:=p) (xs:=ps) Jv ⟨none,rfl,rfl⟩ (by rintro _ _ _ _ ⟨_,_,e⟩;rw[e];exact hE.of hp) ?_ ?_⟩
 ·rintro i y σ H2 hi ⟨v,rfl,rfl⟩
  have kU:=(List.getElem?_eq_some_iff.mp hi).1
  rw[hl,Tj] at kU
  have uJ:(row.map fun q=>Dv.t [.i q.1,.i q.2])[i]?=some (.t [.i row[i].1,.i row[i].2]):=by rw[aam,Wd kU];rfl
  obtain⟨a,rfl,ha⟩:=(Yi i y _ hi uJ).SH
  refine⟨_,rfl,_,_,_,_,rfl,.tup ha,KY,_,rfl,jz ?_⟩
  refine⟨_,rfl,a,_,rfl,.inr (rn.of ha),rfl,_,rfl,JJ (by rfl) ?_⟩
  refine⟨_,rfl,a,_,_,_,rfl,rfl,rn.of ha,gH (j:=0) rfl rfl,_,rfl,_,rfl,jz ?_⟩
  refine⟨_,rfl,a,_,_,_,rfl,rfl,rn.of ha,gH (j:=1) rfl rfl,_,rfl,_,rfl,jz ?_⟩
  exact⟨_,rfl,rfl⟩
 ·rintro σ H2 ⟨v,rfl,rfl⟩
  exact q
end
noncomputable def hide(fi:Addr)(H:Hp):Hp:=fun b=>if b=fi then none else H b
section
variable{fi b:Addr}{H H':Hp}
theorem hide_ne(h:b≠fi):hide fi H b=H b:=aak h
theorem nR{o:HO}(h:hide fi H b=some o):H b=some o∧b≠fi:=by
 unfold hide at h
 split at h
 ·cases h
 ·exact⟨h,by assumption⟩
theorem Cc(s:gm H H'):gm (hide fi H) (hide fi H'):=fun b o e=>by
 obtain⟨e,n⟩:=nR e
 rw[hide_ne n];exact s _ _ e
theorem wj{o:HO}:hide fi (upd H fi o)=hide fi H:=by
 funext b
 by_cases h:b=fi
 ·subst h;unfold hide;rw[aap rfl,aap rfl]
 ·rw[hide_ne h,hide_ne h,e_ h]
theorem KZ:gm (hide fi H) H:=fun b o e=>(nR e).1
theorem Rep.SI{A:Ad}{d:Addr}{D:Dk}{W:Addr→Prop}{n:Nat}{v:V}{x:Dv}(X:ia A H d D W)(s:lZ W H H')(r:Rep (hide fi H) n v x):Rep (hide fi H') n v x:=by
 induction r with
 | o=>exact .o
 | s=>exact .s
 | i=>exact .i
 | l h hl _ ih=>exact .l (by obtain⟨e,n⟩:=nR h;rw[hide_ne n];exact s _ _ e (X.lst e)) hl ih
 | t h hl _ ih=>exact .t (by obtain⟨e,n⟩:=nR h;rw[hide_ne n];exact s _ _ e (X.tup e)) hl ih
theorem One.LA{H0:Hp}{l:List V}{row:List Ln}{qu:List (Nat×Nat)}{v:V}(o:One H0 H row qu v)(s:gm H0 H)(hf:H0 fi=some (.lst l)):Rep (hide fi H) 3 v (IB row qu):=by
 obtain⟨u,r,c,qs,e,h1,h2,h3,h4,⟨vs,h5,h5'⟩,h6,h7⟩:=o
 have nf:∀{b:Addr},H0 b=none→b≠fi:=fun h z=>by rw[z,hf] at h;cases h
 have nt:∀{b:Addr} {xs:List V},H b=some (.tup xs)→hide fi H b=some (.tup xs):=fun h=>by
  rw[hide_ne fun z=>?_]
  ·exact h
  ·rw[z,s _ _ hf] at h;cases h
 exact One.rep (H0:=H0) ⟨u,r,c,qs,e,h1,h2,h3,by rw[hide_ne (nf h1)];exact h4,⟨vs,by rw[hide_ne (nf h2)];exact h5,Paired.jZ h5' fun v l ⟨t,e,h⟩=>⟨t,e,nt h⟩⟩,by rw[hide_ne (nf h3)];exact h6,Paired.jZ h7 fun q v ⟨a,e,h⟩=>⟨a,e,nt h⟩⟩
end
structure Hd(H:Hp)(fi:Addr)(fv:List V)(ex:List (Addr×List V))(rs:List (V×Dv)):Prop where
 i:H fi=some (.lst fv)
 e:∀q∈ex,hide fi H q.1=some (.lst q.2)
 r:∀q∈rs,Rep (hide fi H) 3 q.1 q.2
section
variable{fi:Addr}{H H':Hp}{fv:List V}{ex:List (Addr×List V)}{rs:List (V×Dv)}
theorem Hd.l(h:Hd H fi fv ex rs){a:Addr}{l:List V}(m:(a,l)∈ex):H a=some (.lst l):=(nR (h.e _ m)).1
theorem Hd.same(h:Hd H fi fv ex rs)(s:gm H H'):Hd H' fi fv ex rs:=⟨s _ _ h.i,fun q m=>Cc s _ _ (h.e q m),fun q m=>(h.r q m).same (Cc s)⟩
theorem Hd.Cd{A:Ad}{d:Addr}{D:Dk}{W:Addr→Prop}(h:Hd H fi fv ex rs)(X:ia A H d D W)(s:lZ W H H'):Hd H' fi fv ex rs:=
 ⟨s _ _ h.i (X.lst h.i),fun q m=>by obtain⟨e,n⟩:=nR (h.e q m);rw[hide_ne n];exact s _ _ e (X.lst e),fun q m=>(h.r q m).SI X s⟩
theorem Hd.put(h:Hd H fi fv ex rs)(fv':List V):Hd (upd H fi (.lst fv')) fi fv' ex rs:=⟨b_,fun q m=>by rw[wj];exact h.e q m,fun q m=>by rw[wj];exact h.r q m⟩
theorem Hd.add(h:Hd H fi fv ex rs){a:Addr}{l:List V}(e:H a=some (.lst l))(n:a≠fi):Hd H fi fv ((a,l)::ex) rs:=
 ⟨h.i,fun q m=>by
  rcases W3.mp m with rfl|m
  ·rw[hide_ne n];exact e
  ·exact h.e q m,h.r⟩
theorem Hd.more(h:Hd H fi fv ex rs){v:V}{x:Dv}(e:Rep (hide fi H) 3 v x):Hd H fi fv ex ((v,x)::rs):=
 ⟨h.i,h.e,fun q m=>by
  rcases W3.mp m with rfl|m
  ·exact e
  ·exact h.r q m⟩
theorem Hd.rp(h:Hd H fi fv ex rs){v:V}{x:Dv}(m:(v,x)∈rs):Rep H 3 v x:=(h.r _ m).same KZ
end
noncomputable def pr{α:Type}(z:Bool)(a b:α):List α:=if z=true then[a,b] else[b,a]
noncomputable def K0(z:Bool):Int:=if z=true then 0 else 1
section
variable{α:Type}{z:Bool}{a b c:α}
theorem Ho:AZ (pr z a b) (K0 z)=some a:=by
 cases z
 ·exact gH (j:=1) rfl rfl
 ·exact gH (j:=0) rfl rfl
theorem Hq:AZ (pr z a b) (1-K0 z)=some b:=by
 cases z
 ·exact gH (j:=0) rfl rfl
 ·exact gH (j:=1) rfl rfl
theorem K1:∃j,HJ (pr z a b).length (K0 z)=some j∧(pr z a b).set j c=pr z c b:=by
 cases z
 ·exact⟨1,rfl,rfl⟩
 ·exact⟨0,rfl,rfl⟩
theorem MW:∃j,HJ (pr z a b).length (1-K0 z)=some j∧(pr z a b).set j c=pr z a c:=by
 cases z
 ·exact⟨0,rfl,rfl⟩
 ·exact⟨1,rfl,rfl⟩
theorem K2{β:Type}(f:α→β):(pr z a b).map f=pr z (f a) (f b):=by cases z<;>rfl
theorem qf{β:Type}{R:β→α→Prop}{vs:List β}(h:Paired R vs (pr z a b)):∃u v,vs=pr z u v∧R u a∧R v b:=by
 cases z
 ·cases h with
  | cons h1 h=>cases h with
   | cons h2 h=>cases h;exact⟨_,_,rfl,h2,h1⟩
 ·cases h with
  | cons h1 h=>cases h with
   | cons h2 h=>cases h;exact⟨_,_,rfl,h1,h2⟩
theorem K3{x:α}(h:x∈pr z a b):x=a∨x=b:=by
 cases z
 ·rcases W3.mp h with h|h
  ·exact .inr h
  ·exact .inl (Tq.mp h)
 ·rcases W3.mp h with h|h
  ·exact .inl h
  ·exact .inr (Tq.mp h)
theorem K4{H:Hp}{p:Addr}{n:Nat}{u v:V}{x y:Dv}(h:H p=some (.lst (pr z u v)))(h1:Rep H n u x)(h2:Rep H n v y):Rep H (n+1) (.ref p) (.l (pr z x y)):=by
 cases z
 ·exact Rep.two h h2 h1
 ·exact Rep.two h h1 h2
end
section
variable{A:Ad}{H:Hp}{fi u:Addr}{o:HO}{r l:List V}
theorem oC.ls{a:Addr}{ls:List Ln}(h:oC A H a ls)(hf:H fi=some (.lst (.ref u::r)))(hu:H u=some (.lst l)):oC A (upd H fi o) a ls:=by
 obtain⟨as,h1,h2⟩:=h
 have hn:a≠fi:=fun e=>by
  subst e
  rw[hf] at h1
  injection aau h1 with e
  cases h2 with
  | nil=>cases e
  | cons h3 _=>
   injection e with e1 _
   cases e1
   obtain⟨dx,vn,vu,vl,h4,_⟩:=h3
   rw[hu] at h4;cases h4
 exact⟨as,by rw[e_ hn];exact h1,Paired.jZ h2 fun _ _ z=>mQ.upd z hf (fun _ z=>by cases z) (fun _ _ _ z=>by cases z)⟩
theorem vR.ls{a:Addr}{ns:List Nm}(h:vR H a ns)(hf:H fi=some (.lst (.ref u::r)))(hu:H u=some (.lst l)):vR (upd H fi o) a ns:=by
 obtain⟨vs,h1,h2⟩:=h
 have hn:a≠fi:=fun e=>by
  subst e
  rw[hf] at h1
  injection aau h1 with e
  subst e
  cases h2 with
  | cons h3 _=>
   obtain⟨t,e1,h4⟩:=h3
   cases e1
   rw[hu] at h4;cases h4
 exact⟨vs,by rw[e_ hn];exact h1,Paired.jZ h2 fun _ _ z=>z.upd hf (fun _ z=>by cases z)⟩
theorem ia.ls{d:Addr}{D:Dk}{W:Addr→Prop}(X:ia A H d D W)(hf:H fi=some (.lst (.ref u::r)))(hu:H u=some (.lst l)):ia A (upd H fi o) d D W:=by
 obtain⟨π,x⟩:=X
 have nd:∀{a:Addr} {kv:List (Key×V)},H a=some (.dK kv)→(upd H fi o) a=some (.dK kv):=fun h=>by rw[e_ (iX h hf fun z=>by cases z)];exact h
 refine⟨π,by rw[e_ (iX x.hd hf fun z=>by cases z)];exact x.hd,nd x.hm,nd x.hn,nd x.hh,x.mn,x.mh,x.nh,x.wm,x.wn,x.wh,x.km,fun p hp=>?_,x.kn,fun y hy=>?_,x.kh,fun s hs=>?_,x.inj,fun b hb=>?_⟩
 ·obtain⟨a,e,dx,vf,pu,cu,vo,h0,h1,h2,h3,h4⟩:=x.vm p hp
  exact⟨a,e,dx,vf,pu,cu,vo,by rw[e_ (iX h0 hf fun z=>by cases z)];exact h0,h1,h2.ls hf hu,h3.ls hf hu,h4⟩
 ·obtain⟨a,kv,l,h1,h2,h3,h4⟩:=x.vn y hy
  exact⟨a,kv,l,h1,h2,nd h3,h4⟩
 ·obtain⟨h1,h2,h3,h4,h5,kv,h6,h7⟩:=x.vh s hs
  exact⟨h1,h2,h3,h4,h5,kv,nd h6,h7⟩
 ·obtain⟨kv,e⟩:=x.dk b hb
  exact⟨kv,nd e⟩
theorem ia.put{d:Addr}{D:Dk}{W:Addr→Prop}{z:Bool}{va vb:V}{n:Nat}{xs ys:List Dv}(X:ia A H d D W)(hf:H fi=some (.lst (pr z va vb)))(ra:Rep H n va (.l xs))(rb:Rep H n vb (.l ys)):ia A (upd H fi o) d D W:=by
 obtain⟨a,_,_,rfl,ha,_⟩:=Rep.Gw ra
 obtain⟨b,_,_,rfl,hb,_⟩:=Rep.Gw rb
 cases z with
 | true=>exact X.ls hf ha
 | false=>exact X.ls hf hb
end
structure Ds(E D:Dk)(st:Str)(px:Pt)(Zs Bs:List Pt):Prop where
 inv:Inv D
 made:D.made=E.made++[px]++Zs++Bs
 iz:D.iz st=E.iz st++[px]++Zs++Bs
 stores:D.stores=E.stores
section
variable{E D:Dk}{st:Str}{px:Pt}{Zs Bs:List Pt}
theorem Ds.held(S:Ds E D st px Zs Bs){p:Pt}(h:p∈[px]++Zs++Bs):p.nm∈D.held st:=by
 have:p∈D.iz st:=by
  rw[S.iz,aaw,aaw]
  exact aaG _ (by rw[←aaw];exact h)
 exact(Inv.kQ.mp this).2
theorem Ds.fresh(S:Ds E D st px Zs Bs){y:Str}(h0:y∉E.names)(h:y∉([px]++Zs++Bs).map (·.nm)):y∉D.names:=fun z=>by
 unfold Dk.names at z
 rw[S.made,aaw,aaw,aar,←aaw [px]] at z
 exact(W9.mp z).elim h0 h
theorem Ds.back(S:Ds E D st px Zs Bs)(hs:st∈E.stores){y o:Str}(hy:y∉D.names)(ho:o∈D.held st):Ds E (D.keep st (bk y o)) st px Zs (Bs++[bk y o]) where
 inv:=S.inv.back (by rw[S.stores];exact hs) hy ho
 made:=by show D.made++[bk y o]=_;rw[S.made,aaw _ Bs]
 iz:=by rw[wg (by exact hy),S.iz,aaw _ Bs]
 stores:=S.stores
end
noncomputable def sh(ps:List Pt)(f:Str):Dv:=IB (Gu ps f) (Hl ps f)
theorem sQ{ps qs:List Pt}{f:Str}(h:Sm ps qs f):sh ps f=sh qs f:=by unfold sh;rw[h.1,h.2]
theorem Ce{fi:Addr}{H:Hp}(h:H fi=none):hide fi H=H:=by
 funext b
 by_cases e:b=fi
 ·subst e;unfold hide;rw[aap rfl,h]
 ·exact hide_ne e
theorem Hd.init{fi:Addr}{H:Hp}{fv:List V}{ex:List (Addr×List V)}{rs:List (V×Dv)}(Rf:H fi=none)(he:∀q∈ex,H q.1=some (.lst q.2))(hr:∀q∈rs,Rep H 3 q.1 q.2):Hd (upd H fi (.lst fv)) fi fv ex rs:=
 ⟨b_,by rw[wj,Ce Rf];exact he,by rw[wj,Ce Rf];exact hr⟩
structure ZC(E:Dk)(st fa fb x1:Str)(px:Pt)(Zs:List Pt):Prop where
 QO:∀z∈Zs,z.other=none
 nm:∀z∈Zs,z.nm=x1
 file:∀z∈Zs,z.file=some fb
 own:∀z∈Zs,∀l∈gg (E.iz st++[px]) fa,l.nm∉z.i3
 ot:∀l∈gg Zs fb,l.nm∉px.i3
section
variable{E:Dk}{st ot fa fb x0 x1 y2 y3 y4 y5:Str}{px:Pt}{Zs:List Pt}
theorem SJ(I:Inv E)(lG:st∈E.stores)(cx:we E st fa x0 px)(oy:fb≠fa)(zc:ZC E st fa fb x1 px Zs)(hf:∀y∈[x0,x1,y2,y3,y4,y5],y∉E.names)(nd:[x0,x1,y2,y3,y4,y5].Nodup) :
  (sh (E.iz st++[px]++Zs++[bk y2 x0]) fa=sh (E.iz st) fa∧sh (E.iz st++[px]++Zs++[bk y2 x0]) fb=sh (E.iz st++[px]++Zs) fb)∧
  (sh (E.iz st++[px]++Zs++[bk y2 x0,bk y3 y2]) fa=sh (E.iz st++[px]) fa∧sh (E.iz st++[px]++Zs++[bk y2 x0,bk y3 y2]) fb=sh (E.iz st++[px]++Zs) fb)∧
  (sh (E.iz st++[px]++Zs++[bk y2 x0,bk y3 y2,bk y4 y3]) fa=sh (E.iz st) fa∧sh (E.iz st++[px]++Zs++[bk y2 x0,bk y3 y2,bk y4 y3]) fb=sh (E.iz st++[px]++Zs) fb)∧
  (sh (E.iz st++[px]++Zs++[bk y2 x0,bk y3 y2,bk y4 y3,bk y5 y4]) fa=sh (E.iz st++[px]) fa∧sh (E.iz st++[px]++Zs++[bk y2 x0,bk y3 y2,bk y4 y3,bk y5 y4]) fb=sh (E.iz st++[px]++Zs) fb):=by
 have c:=cx.chg I lG (fun _ h=>h) (hf x0 (by simp))
 obtain rfl:=cx.nm
 have hP:∀y∈[px.nm,y2,y3,y4,y5],y∉(E.iz st).map (·.nm):=fun y hy z=>by
  refine hf y ?_ ?_
  ·simp only [W3,aaP,abQ] at hy ⊢
   rcases hy with h|h|h|h|h<;>simp[h]
  ·obtain⟨p,hp,rfl⟩:=List.mem_map.mp z
   exact Wc (ZH.mp hp).1
 simp only [aaL,W3,aaP,abQ,not_or] at nd
 have NY:[px.nm,y2,y3,y4,y5].Nodup:=by
  simp only [aaL,W3,aaP,abQ,not_or]
  exact⟨⟨nd.1.2.1,nd.1.2.2.1,nd.1.2.2.2.1,nd.1.2.2.2.2⟩,nd.2.2⟩
 have hZ:∀z∈Zs,z.other=none∧z.nm∉[px.nm,y2,y3,y4,y5]:=fun z hz=>⟨zc.QO z hz,by
  rw[zc.nm z hz]
  simp only [W3,aaP,abQ,not_or]
  exact⟨fun e=>nd.1.1 e.symm,nd.2.1⟩⟩
 have l1:=NI c.other hP hZ NY
 have l0:live (E.iz st++[px])=live (E.iz st)++[px]:=by
  have:=NI (Zs:=[]) c.other hP (fun z hz=>by cases hz) NY
  rw[aaa,aaa] at this
  exact this
 have Yj:∀z∈Zs,z.file≠some fa∧∀l∈gg (E.iz st) fa,l.nm∉z.i3:=fun z hz=>⟨by rw[zc.file z hz];exact fun e=>oy (aau e),fun l hl=>zc.own z hz l (by rw[jO];exact aal _ hl)⟩
 have hzl:∀z∈Zs,z.file≠some fa∧∀l∈gg (E.iz st++[px]) fa,l.nm∉z.i3:=fun z hz=>⟨(Yj z hz).1,zc.own z hz⟩
 have b:∀{l:List (Str×Str)},∀q∈l.map (fun q=>bk q.1 q.2),Bk q:=fun{l}=>bks
 have l2:=Sx c.other hP hZ NY
 have l3:=Sy c.other hP hZ NY
 have l4:=SA c.other hP hZ NY
 have l5:=SD c.other hP hZ NY
 have a3:=Az (f:=fb) (b (l:=[(y2,px.nm),(y3,y2)])) (b (l:=[(y3,y2)])) (by rw[l1];exact l3)
 have a5:=Az (f:=fb) (b (l:=[(y2,px.nm),(y3,y2),(y4,y3),(y5,y4)])) (b (l:=[(y3,y2),(y5,y4)])) (by rw[l1];exact l5)
 exact⟨⟨sQ (Ay c Yj (b (l:=[(y2,px.nm)])) (b (l:=[(y2,px.nm)])) l2),sQ (uI c oy zc.ot (b (l:=[(y2,px.nm)])) (b (l:=[(y2,px.nm)])) l2 l1)⟩,
  ⟨sQ (E5 c hzl (b (l:=[(y2,px.nm),(y3,y2)])) (b (l:=[(y3,y2)])) l3 l0),sQ a3⟩,
  ⟨sQ (Ay c Yj (b (l:=[(y2,px.nm),(y3,y2),(y4,y3)])) (b (l:=[(y2,px.nm),(y4,y3)])) l4),sQ (uI c oy zc.ot (b (l:=[(y2,px.nm),(y3,y2),(y4,y3)])) (b (l:=[(y2,px.nm),(y4,y3)])) l4 l1)⟩,
  ⟨sQ (E5 c hzl (b (l:=[(y2,px.nm),(y3,y2),(y4,y3),(y5,y4)])) (b (l:=[(y3,y2),(y5,y4)])) l5 l0),sQ a5⟩⟩
theorem yB(I:Inv E)(Bw:ot∈E.stores)(sub:∀y∈E.held st,y∈E.held ot)(cx:we E st fa x0 px)(oy:fb≠fa)(hx:x0∉E.names)(hy:y2∉E.names)(hxy:x0≠y2) :
  sh (E.iz ot++[px]) fb=sh (E.iz ot) fb∧sh (E.iz ot++[px]++[bk y2 x0]) fa=sh (E.iz ot) fa∧sh (E.iz ot++[px]++[bk y2 x0]) fb=sh (E.iz ot) fb:=by
 have c:=cx.chg I Bw sub hx
 obtain rfl:=cx.nm
 have hP:∀y∈[px.nm,y2],y∉(E.iz ot).map (·.nm):=fun y MX z=>by
  obtain⟨p,hp,rfl⟩:=List.mem_map.mp z
  have:=Wc (f:=(·.nm)) (ZH.mp hp).1
  simp only [W3,aaP,abQ] at MX
  rcases MX with h|h
  ·exact hx (h▸this)
  ·exact hy (h▸this)
 have l0:live (E.iz ot++[px])=live (E.iz ot)++[px]:=by
  show ki _ []=_
  rw[iT,aak (by simp),c.other]
  rfl
 have l2:live (E.iz ot++[px]++[]++[bk y2 px.nm])=live (E.iz ot)++[]++[bk y2 px.nm]:=by
  show ki _ []=_
  rw[aaa,aaa,iT,aak (by simp)]
  show ki _ [px.nm]++_=_
  rw[iT,aap (by simp),Ca fun y MX=>hP y (by rw[Tq.mp MX];simp)]
 have b:∀q∈[bk y2 px.nm],Bk q:=fun q hq=>by rw[Tq.mp hq];exact NG _ _
 have f0:=Iz c oy l0
 have f1:=Ay (Zs:=[]) c (fun z hz=>by cases hz) b b l2
 have f2:=uI (Zs:=[]) (f:=fb) c oy (fun l hl=>by cases hl) b b l2 (by rw[aaa,aaa];exact l0)
 rw[aaa] at f1 f2
 exact⟨sQ f0,sQ f1,sQ (f2.trans f0)⟩
end
theorem tD{K:Qqy}{D:Dk}{t fa fb:Str}{z:Bool}{H0 H1:Hp}{p li:Addr}{vs:List V}{wa wb:V}{xa xb:Dv}(hl:H0 li=some (.lst (pr z wa wb)))(ra:Rep H0 3 wa xa)(rb:Rep H0 3 wb xb)(s:gm H0 H1)(hp:H1 p=none)(hv:Paired (fun v f=>One H0 H1 (D.row t f) (D.uv t f) v) vs (pr z fa fb))(ea:sh (D.iz t) fa=xa)(eb:sh (D.iz t) fb=xb):oA K (upd H1 p (.lst vs)) 9 (.ref p) (.ref li) true:=by
 obtain⟨ga,gb,rfl,oa,ob⟩:=qf hv
 subst ea eb
 have s2:=(gm.refl H1).new (o:=.lst (pr z ga gb)) hp
 have s3:=s.trans s2
 exact Rep.eq (Rep.mono (K4 b_ (oa.rep.same s2) (ob.rep.same s2)) (by decide)) ((K4 (s3 _ _ hl) (ra.same s3) (rb.same s3)).mono (by decide))
section
variable{E Dd:Dk}{st ot x0 y2:Str}{px:Pt}{Zs:List Pt}
theorem K5(S:Ds E Dd st px Zs [])(lG:st∈E.stores)(hx:px.nm∉E.names)(hz:∀z∈Zs,z.nm∉E.names){w:Str}(h:w∈Dd.iN px.nm):w∈E.held st:=by
 have hi:Dd.made[E.made.length]?=some px:=by rw[S.made];simp
 have hw:=S.inv.before _ px hi w h
 rw[S.made,aaa,aaw,List.take_left] at hw
 have hw:w∈E.names:=hw
 obtain⟨q,hq,rfl⟩:=List.mem_map.mp hw
 have hh:=(S.inv.kF st (by rw[S.stores];exact lG) px.nm (S.held (p:=px) (by simp))).2 _ h
 have hm:q∈Dd.iz st:=Inv.kQ.mpr ⟨by rw[S.made];simp[hq],hh⟩
 rw[S.iz,aaa] at hm
 rcases W9.mp hm with hm|hm
 ·rcases W9.mp hm with hm|hm
  ·exact(Inv.kQ.mp hm).2
  ·rw[Tq.mp hm] at hw;exact absurd hw hx
 ·exact absurd hw (hz q hm)
theorem IF(S:Ds E Dd st px Zs [])(I:Inv E)(lG:st∈E.stores)(Bw:ot∈E.stores)(sub:∀y∈E.held st,y∈E.held ot)(hx:px.nm∉E.names)(hy:y2∉E.names)(hz:∀z∈Zs,z.nm∉E.names)(hd:(Dd.keep st (bk y2 px.nm)).held ot=E.held ot)(w:Str) :
  w∈((Dd.keep st (bk y2 px.nm)).take ot y2).held ot↔w∈E.held ot∨w=px.nm∨w=y2:=by
 show w∈(if ot=ot then(Dd.keep st (bk y2 px.nm)).held ot++(Dd.keep st (bk y2 px.nm)).m_ ot y2 else _)↔_
 rw[aap rfl,W9,hd]
 have hn:∀{v},v∈(Dd.keep st (bk y2 px.nm)).iN y2↔v=px.nm∨v∈Dd.iN px.nm:=fun{v}=>by
  show v∈(if y2=y2 then oQ Dd.iN (bk y2 px.nm) else _)↔_
  rw[aap rfl]
  simp[oQ,iJ,named,bk]
 have NR:px.nm∈(Dd.keep st (bk y2 px.nm)).names:=by
  show px.nm∈(Dd.made++[bk y2 px.nm]).map (·.nm)
  rw[S.made];simp
 have out:∀{v},v∉E.names→v∉E.held ot:=fun h z=>h (I.kF ot Bw _ z).1
 constructor
 ·rintro(h|h)
  ·exact .inl h
  ·unfold Dk.m_ at h
   rcases W9.mp (ZH.mp h).1 with h|h
   ·unfold Dk.nB at h
    rcases hn.mp (aaA (ZH.mp h).2) with h|h
    ·exact .inr (.inl h)
    ·exact .inl (sub _ (K5 S lG hx hz h))
   ·exact .inr (.inr (Tq.mp h))
 ·rintro(h|rfl|rfl)
  ·exact .inl h
  ·refine .inr (ZH.mpr ⟨aal _ (ZH.mpr ⟨NR,ZF (hn.mpr (.inl rfl))⟩),?_⟩)
   rw[aa2,hd];exact out hx
  ·refine .inr (ZH.mpr ⟨by simp,?_⟩)
   rw[aa2,hd];exact out hy
end
section
variable{P:Program}{w:World}{K:Qqy}{mg:Qqx}{base:Heap}{A:Ad}
def Hr(K:Qqy):Sp:=fun vs H Q _=>∃(a:Addr)(ns:List Int),vs=[.ref a]∧hE K H a (ns.map V.int)∧ns.length≤63∧∀H',Q (.bl true) H'
theorem PV{f:Addr}{fd:FuncData}(F:xI K "law" "law" G3 f fd)(T:Txt mg)(O:Ok K mg A):ip P w K mg base mU 20 f fd ["script"] (Hr K):=by
 have Fl:=@MO P w K mg base A T O
 have ij:=@Hh P w K mg base A T O
 have mT:=@Hi P w K mg base A T O
 have j2:=@MU P w K mg base A T O
 have ue:=@IC P w K mg base A T O
 have yW:=@E9 P w K mg base A T O
 have wu:=@Bo P w K mg base A T O
 have jP:=(@Gk P w K mg base A T O).DR
 have pd:=(@G_ P w K mg base A T O).DR
 have mS:=(@Hc P w K mg base A T O).DR
 refine F.rl lr fun js A0 outer s H vs Q E hr h=>?_
 obtain⟨a,ns,rfl,ha,hn,q⟩:=h
 have sz:sizeLine=16777216:=aaB
 refine⟨_,(de (lx 1 lr (ml O.BX Fl hr (a_ (pv 0) (a_ f_ (a_ (gs iD (ml O.iA ij hr (a_ (pv 0) (a_ f_ d_))) f_) (a_ kW d_))))))
   (de (lx 2 lr (mD (pv 1) f_))
   (de (lx 3 lr (mD (mD (pv 1) f_) (gs iD (ml O.iA ij hr (a_ (pv 0) (a_ f_ d_))) f_)))
   (de (lx 4 lr (mD (mD (pv 1) f_) (gs iD (gs iI (gs iI (ml O.iA ij hr (a_ (pv 0) (a_ f_ d_))) f_) (gs iD (gs jB (ml O.iA ij hr (a_ (pv 0) (a_ f_ d_))) f_) f_)) f_)))
   (de (zx (j:=5) Nv (gc G3).names [13] lr.nd rfl rfl rfl (kK rfl T.lT (a_ f_ d_)) rfl (by decide+kernel) (fun _ _ _ _=>(iF (i:=13) lr.nd rfl (Or.inl rfl))) (fun _ _ _ _=>mj) (fun _ _ _ _=>A6 (ml O.qa mT hr (a_ (gs iD (ml O.iA ij hr (a_ (pv 0) (a_ f_ d_))) f_) (a_ (gs iI f_ (pv 13)) d_)))))
   (de (lx 6 lr (gs iD (ml O.iA ij hr (a_ (pv 0) (a_ f_ d_))) f_))
   (de (iH aaz rfl (iq (uS (pv 2) O.gC O.lX jP hr (a_ (pv 3) d_))) (tM 7 lr) (fT (g_ (uS (pv 2) O.gC O.sZ pd hr (a_ (pv 4) (a_ (pv 3) (a_ (pv 7) d_)))))))
   (de (lx 8 lr (ml O.kT j2 hr (a_ (pv 2) (a_ (pv 3) (a_ (mD (pv 1) f_) d_)))))
   (de (lx 9 lr (ml O.kT j2 hr (a_ (pv 2) (a_ (pv 4) (a_ (mD (pv 1) f_) d_)))))
   (de (iH aaz rfl (iq (gs mW (pv 8) (pv 9))) (tM 10 lr) (fT (iy ((pw_or (ll (mf (ml O.ua yW hr (a_ (mD (pv 10) f_) d_)))) (pw_or1 (ll (mf (ml O.rf wu hr (a_ (mD (pv 10) f_) d_)))))).pt) (fT (h_ kW)) hX)))
   (de (g_ (ml O.sA ue hr (a_ (pv 2) (a_ (pv 3) (a_ (mD (mD (pv 1) f_) (pv 6)) (a_ (mD (pv 5) f_) (a_ (ml O.iA ij hr (a_ (pv 0) (a_ f_ d_))) d_)))))))
   (de (lx 11 lr (ml O.kT j2 hr (a_ (pv 2) (a_ (pv 3) (a_ (mD (pv 1) f_) d_)))))
   (de (iy (ik (CA 9 (by exact OP hr)) (mD (pv 11) (gs pf f_ (pv 6))) (mD (pv 8) (gs pf f_ (pv 6))) (iE _)) (fT (h_ kW)) hX)
   (de (rF (iy (ik mH (gs iD (gs jB (ml O.iA ij hr (a_ (pv 0) (a_ f_ d_))) f_) f_) f_ (iE _)) (de (g_ (ml O.sA ue hr (a_ (pv 2) (a_ (pv 3) (a_ (mD (mD (pv 1) f_) (gs pf f_ (pv 6))) (a_ (mD (pv 5) f_) (a_ (ml O.iA ij hr (a_ (pv 0) (a_ f_ d_))) d_)))))))
   (fT (ui (mD (ml O.kT j2 hr (a_ (pv 2) (a_ (pv 3) (a_ (mD (pv 1) f_) d_)))) (gs pf f_ (pv 6))) (uh (pv 8) (gs pf f_ (pv 6)) set_list)))) hX))
   (de (g_ (uS (pv 2) O.gC O.p_ mS hr (a_ (pv 3) (a_ (mD (pv 5) f_) (a_ (mD (pv 5) f_) d_)))))
   (de (iy (ik (CA 9 (by exact OP hr)) (ml O.kT j2 hr (a_ (pv 2) (a_ (pv 3) (a_ (mD (pv 1) f_) d_)))) (pv 8) (iE _)) (fT (h_ kW)) hX)
   (de (g_ (uS (pv 2) O.gC O.sZ pd hr (a_ (pv 4) (a_ (pv 3) (a_ (mD (pv 5) f_) d_)))))
   (de (iy (ik (CA 9 (by exact OP hr)) (ml O.kT j2 hr (a_ (pv 2) (a_ (pv 4) (a_ (mD (pv 1) f_) d_)))) (pv 9) (iE _)) (fT (h_ kW)) hX)
   (de (g_ (uS (pv 2) O.gC O.p_ mS hr (a_ (pv 3) (a_ (mD (pv 5) f_) (a_ (mD (pv 5) f_) d_)))))
   (de (lx 12 lr (mD (pv 8) (pv 6)))
   (de (iH aaz rfl (wA rfl T.lT (a_ f_ (a_ f_ d_))) (tM 13 lr) (de (ui (mD (iW (a_ (mD (pv 11) (pv 6)) (a_ (pv 12) d_))) (gs iD (pv 13) f_)) (uh (pv 8) (pv 6) set_list))
   (de (iy (ik (CA 9 (by exact OP hr)) (ml O.kT j2 hr (a_ (pv 2) (a_ (pv 3) (a_ (mD (pv 1) f_) d_)))) (pv 8) (iE _)) (fT (h_ kW)) hX)
   (fT (g_ (uS (pv 2) O.gC O.p_ mS hr (a_ (pv 3) (a_ (mD (pv 5) (pv 13)) (a_ (mD (pv 5) (gs pf (pv 13) f_)) d_)))))))))
   (de (ui (mD (pv 11) (pv 6)) (uh (pv 8) (pv 6) set_list))
   (fT (h_ (LP (FO 9 (by exact OP hr)) (ml O.kT j2 hr (a_ (pv 2) (a_ (pv 3) (a_ (mD (pv 1) f_) d_)))) (pv 8) (iE _)))))))))))))))))))))))))),?_⟩
 refine Wr ?_;intro _ _ _ _ _ _ _ _ _ _ _ _ _ _ _ _ _ _ _ _ _ _
 have b7:=mod_lt (cellAt ns 4) 13 (by decide)
 obtain⟨n,N5⟩:∃n:Nat,cellAt ns 4%13=(n:Int):=⟨_,(Int.toNat_of_nonneg b7.1).symm⟩
 refine⟨_,rfl,_,rfl,a,ns,4,rfl,ha,by decide,_,_,rfl,rfl,(by show(0:Int)<13;decide),a,ns,9,n,true,?_,ha,by omega,by decide,by decide,by omega,fun bl d ss fs D W H1 B=>?_⟩
 ·show[V.ref a,V.int 9,V.int (cellAt ns 4%13),V.bl true]=_
  rw[N5]
 have s1:=B.same
 have n7:n<13:=by omega
 have I0:=B.inv
 have X1:=B.Wo
 obtain⟨π,y⟩:=id X1
 have hnf:∀x∈D.names,kI x:=fun x hx=>by
  obtain⟨j,_,e⟩:=B.names x hx
  rw[e];exact(kr _ _).ke
 have Um:wy D.made.length:=(B.sz.small (by omega)).many
 refine⟨_,rfl,bl,_,_,_,rfl,rfl,hE.of B.at_,gH (j:=0) rfl rfl,?_⟩
 have b5:=mod_lt (cellAt ns 5) 3 (by decide)
 have b6:=mod_lt (cellAt ns 5+1+cellAt ns 5/3%2) 3 (by decide)
 obtain⟨v1,e1,h1⟩:=nY (xs:=gp (wx ns)) b5.1 b5.2
 obtain⟨st,lG,rfl⟩:=lb h1
 obtain⟨v2,e2,h2⟩:=nY (xs:=gp (wx ns)) b6.1 b6.2
 obtain⟨ot,Bw,rfl⟩:=lb h2
 refine⟨_,rfl,bl,_,_,_,rfl,rfl,hE.of B.at_,gH (j:=1) rfl rfl,_,rfl,a,ns,5,rfl,kC ha s1,by decide,_,_,rfl,rfl,(by show(0:Int)<3;decide),ss,_,_,_,rfl,rfl,hE.of B.st,e1,?_⟩
 refine⟨_,rfl,bl,_,_,_,rfl,rfl,hE.of B.at_,gH (j:=1) rfl rfl,_,rfl,a,ns,5,rfl,kC ha s1,by decide,_,_,rfl,rfl,_,rfl,a,ns,5,rfl,kC ha s1,by decide,_,_,rfl,rfl,⟨by decide,by decide⟩,_,_,rfl,rfl,(by show(0:Int)<2;decide),_,_,rfl,rfl,_,_,rfl,rfl,(by show(0:Int)<3;decide),ss,_,_,_,rfl,rfl,hE.of B.st,e2,?_⟩
 have Rb:st≠ot:=fun z=>by
  subst z
  have:=(abF (List.getElem?_eq_some_iff.mp lG).1 (B_ ns)).mp (lG.trans Bw.symm)
  omega
 have Hw:=v_ st (V_ lG)
 have got:=v_ ot (V_ Bw)
 have lG:st∈D.stores:=by rw[B.stores];exact V_ lG
 have Bw:ot∈D.stores:=by rw[B.stores];exact V_ Bw
 refine⟨_,rfl,by decide,by decide,?_⟩
 let Jv:=fun(m:Nat) (ys:List V) (σ:St) (H2:Hp)=>∃(IQ:Option V),σ=[rr a,rr bl,rr d,rs st,rs ot,none,none,none,none,none,none,none,none,IQ]∧H2=H1∧ys=gp ((List.range m).map fun(j:Nat)=>nameOf (nQ ns 3) (30+(j:Int)))
 refine rE (n:=6) (by decide) Jv ⟨none,rfl,rfl,rfl⟩ (by rintro _ _ _ _ ⟨_,_,_,e⟩;rw[e];simp) ?_ ?_
 ·rintro m ys σ H2 hm ⟨IQ,rfl,rfl,rfl⟩
  refine⟨_,rfl,a,ns,3,rfl,kC ha s1,by decide,_,_,rfl,rfl,(by show(0:Int)<20736;decide),_,rfl,_,_,rfl,rfl,_,_,rfl,?_⟩
  refine⟨_,rfl,rfl,?_⟩
  rw[acm,aar,←mL]
  show _++[V.str (nameOf (nQ ns 3) (30+(0+(m:Int))))]=_
  rw[Int.zero_add]
  rfl
 rintro ys σ H2 ⟨IQ,rfl,rfl,rfl⟩ nm NR
 have hnu:∀k:Int,0≤k→k<6→nameOf (nQ ns 3) (30+k)∉D.names:=fun k h0 h1 z=>by
  obtain⟨j,hj,e⟩:=B.names _ z
  have:=sP (by omega) (by omega) (by omega) (by omega) e
  omega
 have QV:∀i j:Int,0≤i→i<6→0≤j→j<6→i≠j→nameOf (nQ ns 3) (30+i)≠nameOf (nQ ns 3) (30+j):=fun i j a b c d e z=>e (by have:=sP (by omega) (by omega) (by omega) (by omega) z;omega)
 have enl:gp ((List.range 6).map fun(j:Nat)=>nameOf (nQ ns 3) (30+(j:Int)))=gp [nameOf (nQ ns 3) (30+0),nameOf (nQ ns 3) (30+1),nameOf (nQ ns 3) (30+2),nameOf (nQ ns 3) (30+3),nameOf (nQ ns 3) (30+4),nameOf (nQ ns 3) (30+5)]:=rfl
 rw[enl]
 have nd:[nameOf (nQ ns 3) (30+0),nameOf (nQ ns 3) (30+1),nameOf (nQ ns 3) (30+2),nameOf (nQ ns 3) (30+3),nameOf (nQ ns 3) (30+4),nameOf (nQ ns 3) (30+5)].Nodup:=by
  simp only [aaL,W3,aaP,abQ,not_or,not_false_eq_true,aa6,and_true]
  refine⟨⟨?_,?_,?_,?_,?_⟩,⟨?_,?_,?_,?_⟩,⟨?_,?_,?_⟩,⟨?_,?_⟩,?_⟩<;>exact QV _ _ (by decide) (by decide) (by decide) (by decide) (by decide)
 have nf:∀y∈[nameOf (nQ ns 3) (30+0),nameOf (nQ ns 3) (30+1),nameOf (nQ ns 3) (30+2),nameOf (nQ ns 3) (30+3),nameOf (nQ ns 3) (30+4),nameOf (nQ ns 3) (30+5)],y∉D.names∧Good y:=fun y hy=>by
  simp only [W3,aaP,abQ] at hy
  rcases hy with rfl|rfl|rfl|rfl|rfl|rfl<;>exact⟨hnu _ (by decide) (by decide),kr _ _⟩
 generalize nameOf (nQ ns 3) (30+0)=x0 at nd nf
 generalize nameOf (nQ ns 3) (30+1)=x1 at nd nf
 generalize nameOf (nQ ns 3) (30+2)=y2 at nd nf
 generalize nameOf (nQ ns 3) (30+3)=y3 at nd nf
 generalize nameOf (nQ ns 3) (30+4)=y4 at nd nf
 generalize nameOf (nQ ns 3) (30+5)=y5 at nd nf
 have s3:=(gm.refl H2).new (o:=.lst (gp [x0,x1,y2,y3,y4,y5])) NR
 have u3:(upd H2 nm (.lst (gp [x0,x1,y2,y3,y4,y5]))) nm=some (.lst (gp [x0,x1,y2,y3,y4,y5])):=b_
 generalize upd H2 nm (.lst (gp [x0,x1,y2,y3,y4,y5]))=H3 at s3 u3
 have Fg:=s1.trans s3
 refine⟨_,rfl,a,ns,6,rfl,kC ha Fg,by decide,_,_,rfl,rfl,(by show(0:Int)<2;decide),?_⟩
 obtain⟨z,hz⟩:∃z,cellAt ns 6%2=K0 z:=by
  rcases(by have:=mod_lt (cellAt ns 6) 2 (by decide);omega:cellAt ns 6%2=0∨cellAt ns 6%2=1) with e|e
  ·exact⟨true,e⟩
  ·exact⟨false,e⟩
 dsimp only
 rw[hz]
 dsimp only [ma];refine IT ?_;intro _
 refine⟨_,rfl,d,π.dx,_,rfl,s3 _ _ y.hd,sL,_,rfl,d,D,W,st,rfl,X1.same s3,Hw.ke,Um,fun h=>absurd lG h,fun _ p4 NX=>?_⟩
 have s4:=s3.new (o:=.lst (gp (D.has st))) NX
 have u4:(upd H3 p4 (.lst (gp (D.has st)))) p4=some (.lst (gp (D.has st))):=b_
 have Yk:=il (u:=.lst (gp (D.has st))) NX u3
 generalize upd H3 p4 (.lst (gp (D.has st)))=H4 at s4 u4 Yk
 have X4:=X1.same s4
 let Jv:=fun(i:Nat) (σ:St) (H5:Hp)=>∃(v7:Option V)(l:List Str),σ=[rr a,rr bl,rr d,rs st,rs ot,rr nm,ri (K0 z),v7,none,none,none,none,none,none]∧lZ W H4 H5∧ia A H5 d (l9 D ot l) W∧Inv (l9 D ot l)∧∀x∈(D.has st).take i,x∈l
 refine⟨p4,rfl,⟨_,hE.of u4⟩,i0 (K:=K) (a:=p4) (xs:=gp (D.has st)) Jv
  ⟨none,D.held ot,rfl,lZ.of (gm.refl _),by rw[xk];exact X4,by rw[xk];exact I0,fun x hx=>by cases hx⟩ (by rintro _ _ _ _ ⟨_,_,_,e,_⟩;exact hE.of (e _ _ u4 (X4.lst u4))) ?_ ?_⟩
 ·rintro i v σ H5 hv ⟨v7,l,rfl,x5,X5,I5,hl⟩
  obtain⟨x,hx,rfl⟩:=lb hv
  obtain⟨Qg,Yl⟩:=ZH.mp (V_ hx)
  have Yl:x∈(l9 D ot l).held st:=by
   show x∈(if st=ot then l else D.held st)
   rw[aak Rb];exact aaA Yl
  obtain⟨π5,y5⟩:=id X5
  refine⟨_,rfl,d,π5.dx,_,rfl,y5.hd,C9,_,rfl,_,rfl,_,rfl,d,l9 D ot l,W,ot,st,x,rfl,X5,I5,Um,got.ke,Hw.ke,hnf x Qg,fun h=>absurd Bw h,fun _ h=>absurd lG h,fun _ _ h=>absurd Yl h,fun _ _ _ cm Hm H6 sm6 QE NS X6 x6=>?_⟩
  have e6:(l9 D ot l).take ot x=l9 D ot (l++(l9 D ot l).m_ ot x):=by rw[B6,B7];show l9 D ot ((if ot=ot then l else D.held ot)++_)=_;rw[aap rfl]
  have I6:=I5.take (s:=ot) (x:=x) Bw Qg
  rw[e6] at X6 I6
  refine⟨_,_,rfl,fun b o e n=>x6 b o (by rw[e_ (gj (sm6 _ _ (x5 b o e n)) QE)];exact sm6 _ _ (x5 b o e n)) n,X6,I6,fun w hw=>?_⟩
  rw[take_snoc hx] at hw
  rcases W9.mp hw with hw|hw
  ·exact aal _ (hl w hw)
  ·rw[Tq.mp hw]
   by_cases e:x∈l
   ·exact aal _ e
   ·refine aaG _ (ZH.mpr ⟨by simp,?_⟩)
    rw[aa2]
    show x∉(if ot=ot then l else D.held ot)
    rw[aap rfl];exact e
 rintro σ H5 ⟨v7,l,rfl,x5,X5,IE,hl⟩
 rw[Tj,aas] at hl
 have sub:∀w∈(l9 D ot l).held st,w∈(l9 D ot l).held ot:=fun w hw=>by
  have hw:w∈(if st=ot then l else D.held st):=hw
  rw[aak Rb] at hw
  show w∈(if ot=ot then l else D.held ot)
  rw[aap rfl]
  exact hl w (ZH.mpr ⟨(I0.kF st lG w hw).1,ZF hw⟩)
 have zE:Sz n (l9 D ot l):=⟨B.sz.many,B.sz.ir,B.sz.i3⟩
 have nE:(l9 D ot l).names=D.names:=rfl
 rw[←nE] at nf
 have lG:st∈(l9 D ot l).stores:=lG
 have Bw:ot∈(l9 D ot l).stores:=Bw
 generalize l9 D ot l=E at X5 IE sub zE nf lG Bw
 have smE:=zE.small (by omega)
 have upX:∀{Ha Hb:Hp},gm H Ha→lZ W Ha Hb→gm H Hb:=fun h x b o e=>x b o (h _ _ e) fun hb=>by rw[B.own b hb] at e;cases e
 have T6:=upX (s1.trans s4) x5
 have hb5:=x5 _ _ (s4 _ _ B.at_) (X4.lst (s4 _ _ B.at_))
 have hf5:=x5 _ _ (s4 _ _ B.fl) (X4.lst (s4 _ _ B.fl))
 have hn5:=x5 _ _ Yk (X4.lst Yk)
 have Ft:∃fa fb,nP ns=pr z fa fb∧fb≠fa∧Good fa∧Good fb:=by
  have oy:nameOf (nQ ns 1) 0≠nameOf (nQ ns 1) 1:=fun e=>absurd (sP (by decide) (by decide) (by decide) (by decide) e) (by decide)
  cases z with
  | true=>exact⟨_,_,rfl,oy.symm,kr _ _,kr _ _⟩
  | false=>exact⟨_,_,rfl,oy,kr _ _,kr _ _⟩
 obtain⟨fa,fb,Ft,oy,gfa,gfb⟩:=Ft
 have Fm:(nP ns).length≤1000:=by simp[nP]
 refine⟨_,rfl,_,rfl,_,rfl,bl,_,_,_,rfl,rfl,hE.of hb5,gH (j:=2) rfl rfl,d,fs,E,W,st,nP ns,rfl,X5,IE,smE,lG,Hw.ke,hf5,Fm,fun fi H6 fv s6 Rf hv=>?_⟩
 rw[Ft] at hv
 obtain⟨va,vb,rfl,oa,ob⟩:=qf hv
 have HD:Hd (upd H6 fi (.lst (pr z va vb))) fi (pr z va vb) [(nm,gp [x0,x1,y2,y3,y4,y5]),(fs,gp (nP ns)),(bl,[.ref d,.ref ss,.ref fs])] [(va,sh (E.iz st) fa),(vb,sh (E.iz st) fb)]:=Hd.init Rf (fun q hq=>by
  simp only [W3,aaP,abQ] at hq
  rcases hq with rfl|rfl|rfl
  ·exact s6 _ _ hn5
  ·exact s6 _ _ hf5
  ·exact s6 _ _ hb5) (fun q hq=>by
  simp only [W3,aaP,abQ] at hq
  rcases hq with rfl|rfl
  ·exact oa.rep
  ·exact ob.rep)
 have Ym:=s6.new (o:=.lst (pr z va vb)) Rf
 have hfi0:H fi=none:=T6.free (s6.free Rf)
 generalize upd H6 fi (.lst (pr z va vb))=H7 at HD Ym
 have X7:=X5.same Ym
 have s07:=T6.trans Ym
 refine⟨_,rfl,_,rfl,_,rfl,bl,_,_,_,rfl,rfl,hE.of (HD.l (a:=bl) (l:=[.ref d,.ref ss,.ref fs]) (by simp)),gH (j:=2) rfl rfl,d,fs,E,W,ot,nP ns,rfl,X7,IE,smE,Bw,got.ke,HD.l (a:=fs) (l:=gp (nP ns)) (by simp),Fm,fun ti H8 tv s8 Yn hv=>?_⟩
 rw[Ft] at hv
 obtain⟨ta,tb,rfl,oa,ob⟩:=qf hv
 have ra:Rep (hide fi H8) 3 ta (sh (E.iz ot) fa):=oa.LA s8 HD.i
 have rb:Rep (hide fi H8) 3 tb (sh (E.iz ot) fb):=ob.LA s8 HD.i
 have s8':=(gm.refl H8).new (o:=.lst (pr z ta tb)) Yn
 have Yo:ti≠fi:=fun e=>by rw[e,s8 _ _ HD.i] at Yn;cases Yn
 replace HD:=((((HD.same s8).more ra).more rb).same s8').add (a:=ti) b_ Yo
 have Yp:=s8.trans s8'
 generalize upd H8 ti (.lst (pr z ta tb))=H9 at HD Yp
 have X9:=X7.same Yp
 have s09:=s07.trans Yp
 have Yq:∀v∈pr z va vb++pr z ta tb,∃row qu,Rep H9 3 v (IB row qu):=fun v hv=>by
  rcases W9.mp hv with h|h
  ·rcases K3 h with rfl|rfl
   ·exact⟨_,_,HD.rp (x:=sh (E.iz st) fa) (by simp)⟩
   ·exact⟨_,_,HD.rp (x:=sh (E.iz st) fb) (by simp)⟩
  ·rcases K3 h with rfl|rfl
   ·exact⟨_,_,HD.rp (x:=sh (E.iz ot) fa) (by simp)⟩
   ·exact⟨_,_,HD.rp (x:=sh (E.iz ot) fb) (by simp)⟩
 have lpr:∀u v:V,(pr z u v).length=2:=fun u v=>by cases z<;>rfl
 dsimp only [ma];refine IT ?_;intro _
 refine⟨_,rfl,_,rfl,fi,ti,_,_,rfl,rfl,HD.i,HD.l (a:=ti) (l:=pr z ta tb) (by simp),by rw[lpr,lpr];omega,fun cc UP=>?_⟩
 have GA:=(gm.refl H9).new (o:=.lst (pr z va vb++pr z ta tb)) UP
 have Yr:(upd H9 cc (.lst (pr z va vb++pr z ta tb))) cc=some (.lst (pr z va vb++pr z ta tb)):=b_
 generalize upd H9 cc (.lst (pr z va vb++pr z ta tb))=Qv at GA Yr
 let Jv:=fun(i:Nat) (σ:St) (Vm:Hp)=>∃(v10:Option V),σ=[rr a,rr bl,rr d,rs st,rs ot,rr nm,ri (K0 z),v7,rr fi,rr ti,v10,none,none,none]∧Vm=Qv
 refine⟨cc,rfl,⟨_,hE.of Yr⟩,i0 (K:=K) (a:=cc) (xs:=pr z va vb++pr z ta tb) Jv
  ⟨none,rfl,rfl⟩ (by rintro _ _ _ _ ⟨_,_,e⟩;rw[e];exact hE.of Yr) ?_ ?_⟩
 ·rintro i u σ Vm hu ⟨v10,rfl,rfl⟩
  obtain⟨row,qu,rp⟩:=Yq u (V_ hu)
  obtain⟨pa,ws,m2,rfl,NV,IW,hwr⟩:=Rep.Gw (rp.same GA)
  obtain⟨x,y,rfl⟩:∃x y,ws=[x,y]:=by
   rcases ws with _|⟨x,_|⟨y,_|⟨_,_⟩⟩⟩
   ·cases IW
   ·cases IW
   ·exact⟨x,y,rfl⟩
   ·cases IW
  refine⟨_,rfl,pa,_,_,_,rfl,rfl,hE.of NV,gH (j:=0) rfl rfl,x,m2,_,rfl,hwr 0 _ _ rfl rfl,_,rfl,jz ?_⟩
  exact⟨_,rfl,pa,_,_,_,rfl,rfl,hE.of NV,gH (j:=1) rfl rfl,y,m2,_,rfl,hwr 1 _ _ rfl rfl,_,rfl,jz ⟨_,rfl,rfl⟩⟩
 rintro σ Vm ⟨v10,rfl,rfl⟩
 replace HD:=HD.same GA
 have X11:=X9.same GA
 have Uo:=s09.trans GA
 have Nb:=nf x0 (by simp)
 have Ys:AZ (gp (nP ns)) (K0 z)=some (V.str fa):=by rw[Ft];unfold gp;rw[K2];exact Ho
 have hfb:AZ (gp (nP ns)) (1-K0 z)=some (V.str fb):=by rw[Ft];unfold gp;rw[K2];exact Hq
 refine⟨_,rfl,_,rfl,_,rfl,bl,_,_,_,rfl,rfl,hE.of (HD.l (a:=bl) (l:=[.ref d,.ref ss,.ref fs]) (by simp)),gH (j:=2) rfl rfl,_,rfl,fs,_,_,_,rfl,rfl,hE.of (HD.l (a:=fs) (l:=gp (nP ns)) (by simp)),Ys,_,rfl,nm,_,_,_,rfl,rfl,hE.of (HD.l (a:=nm) (l:=gp [x0,x1,y2,y3,y4,y5]) (by simp)),gH (j:=0) rfl rfl,_,rfl,a,ns,7,rfl,kC ha Uo,by decide,d,E,W,n,st,fa,x0,_,rfl,X11,IE,zE,by omega,lG,Hw.ke,gfa,Nb.2,Nb.1,fun H12 px cx X12 x12 Vs Yt=>?_⟩
 replace HD:=HD.Cd X11 x12
 have Yu:=upX Uo x12
 have S1:Ds E (E.keep st px) st px [] []:=⟨Vs,by simp;rfl,by rw[wg (by rw[cx.nm];exact Nb.1)];simp,rfl⟩
 have sm1:=Yt.small (by omega)
 have Nc:(E.keep st px).iz st=E.iz st++[px]:=wg (by rw[cx.nm];exact Nb.1)
 obtain⟨F1,_,_⟩:=yB (y2:=y2) IE lG (fun _ h=>h) cx oy Nb.1 (nf y2 (by simp)).1 (by simp at nd;exact nd.1.2.1)
 refine⟨_,rfl,_,rfl,_,rfl,bl,_,_,_,rfl,rfl,hE.of (HD.l (a:=bl) (l:=[.ref d,.ref ss,.ref fs]) (by simp)),gH (j:=2) rfl rfl,d,fs,E.keep st px,W,st,nP ns,rfl,X12,Vs,sm1,lG,Hw.ke,HD.l (a:=fs) (l:=gp (nP ns)) (by simp),Fm,fun ci Vt cv Fg Yv hv=>?_⟩
 rw[Ft] at hv
 obtain⟨ca,cb,rfl,oa,ob⟩:=qf hv
 have ra:Rep (hide fi Vt) 3 ca (sh (E.iz st++[px]) fa):=by rw[←Nc];exact oa.LA Fg HD.i
 have rb:Rep (hide fi Vt) 3 cb (sh (E.iz st) fb):=by rw[←F1,←Nc];exact ob.LA Fg HD.i
 have Up:=(gm.refl Vt).new (o:=.lst (pr z ca cb)) Yv
 have Uq:ci≠fi:=fun e=>by rw[e,Fg _ _ HD.i] at Yv;cases Yv
 replace HD:=((((HD.same Fg).more ra).more rb).same Up).add (a:=ci) b_ Uq
 have Ls:=Fg.trans Up
 generalize upd Vt ci (.lst (pr z ca cb))=H14 at HD Ls
 have Yw:=X12.same Ls
 have Ur:=Yu.trans Ls
 refine⟨_,rfl,_,rfl,_,_,rfl,rfl,ci,_,_,_,rfl,rfl,hE.of (HD.l (a:=ci) (l:=pr z ca cb) (by simp)),Hq,_,rfl,_,rfl,_,_,rfl,rfl,fi,_,_,_,rfl,rfl,hE.of HD.i,Hq,?_⟩
 obtain⟨ub,_,_,rfl,_⟩:=Rep.Gw (HD.rp (v:=vb) (x:=sh (E.iz st) fb) (by simp))
 obtain⟨uc,_,_,rfl,_⟩:=Rep.Gw (HD.rp (v:=cb) (x:=sh (E.iz st) fb) (by simp))
 refine⟨_,⟨uc,ub,rfl,rfl⟩,Rep.eq ((HD.rp (x:=sh (E.iz st) fb) (by simp)).mono (by decide)) ((HD.rp (x:=sh (E.iz st) fb) (by simp)).mono (by decide)),_,rfl,jz ?_⟩
 have Us:=nf x1 (by simp)
 refine⟨fun σ Vu=>∃(Dd:Dk)(Zs:List Pt)(wb:V)(m:Nat),σ=[rr a,rr bl,rr d,rs st,rs ot,rr nm,ri (K0 z),v7,rr fi,rr ti,v10,rr ci,none,none]∧Hd Vu fi (pr z va wb) [(ci,pr z ca (.ref uc)),(ti,pr z ta tb),(nm,gp [x0,x1,y2,y3,y4,y5]),(fs,gp (nP ns)),(bl,[.ref d,.ref ss,.ref fs])] [(wb,sh (E.iz st++[px]++Zs) fb),(ca,sh (E.iz st++[px]) fa),(tb,sh (E.iz ot) fb),(ta,sh (E.iz ot) fa),(va,sh (E.iz st) fa)]∧ia A Vu d Dd W∧Ds E Dd st px Zs []∧ZC E st fa fb x1 px Zs∧Sz m Dd∧m≤n+2∧∀t∈E.stores,t≠st→Dd.held t=E.held t,?_,?_⟩
 ·refine⟨_,rfl,a,ns,6,rfl,kC ha Ur,by decide,_,_,rfl,rfl,⟨by decide,by decide⟩,_,_,rfl,rfl,(by show(0:Int)<3;decide),rfl,_,rfl,lE (fun _=>?_) (fun _=>?_)⟩
  ·refine⟨_,rfl,_,rfl,_,rfl,bl,_,_,_,rfl,rfl,hE.of (HD.l (a:=bl) (l:=[.ref d,.ref ss,.ref fs]) (by simp)),gH (j:=2) rfl rfl,_,rfl,_,_,rfl,rfl,fs,_,_,_,rfl,rfl,hE.of (HD.l (a:=fs) (l:=gp (nP ns)) (by simp)),hfb,_,rfl,nm,_,_,_,rfl,rfl,hE.of (HD.l (a:=nm) (l:=gp [x0,x1,y2,y3,y4,y5]) (by simp)),gH (j:=1) rfl rfl,_,rfl,a,ns,8,rfl,kC ha Ur,by decide,d,E.keep st px,W,n+1,st,fb,x1,_,rfl,Yw,Vs,Yt,by omega,lG,Hw.ke,gfb,Us.2,S1.fresh Us.1 (by simp at nd ⊢;rw[cx.nm];exact fun e=>nd.1.1 e.symm),fun Vu pz cz Rg x15 I15 z15=>?_⟩
   have Nd:=HD.Cd Yw x15
   have Ld:pz.nm∉(E.keep st px).names:=by rw[cz.nm];exact S1.fresh Us.1 (by simp at nd ⊢;rw[cx.nm];exact fun e=>nd.1.1 e.symm)
   have Ut:((E.keep st px).keep st pz).iz st=E.iz st++[px]++[pz]:=by rw[wg Ld,Nc]
   refine⟨_,rfl,_,rfl,_,rfl,bl,_,_,_,rfl,rfl,hE.of (Nd.l (a:=bl) (l:=[.ref d,.ref ss,.ref fs]) (by simp)),gH (j:=2) rfl rfl,d,fs,(E.keep st px).keep st pz,W,st,nP ns,rfl,Rg,I15,z15.small (by omega),lG,Hw.ke,Nd.l (a:=fs) (l:=gp (nP ns)) (by simp),Fm,fun gi Uu gv M_ hgi hv=>?_⟩
   rw[Ft] at hv
   obtain⟨ga,gb,rfl,oa,ob⟩:=qf hv
   have rg:Rep (hide fi Uu) 3 gb (sh (E.iz st++[px]++[pz]) fb):=by rw[←Ut];exact ob.LA M_ Nd.i
   have Uv:=(gm.refl Uu).new (o:=.lst (pr z ga gb)) hgi
   have IS:=((Nd.same M_).more rg).same Uv
   have hg:(upd Uu gi (.lst (pr z ga gb))) gi=some (.lst (pr z ga gb)):=b_
   have N6:=M_.trans Uv
   generalize upd Uu gi (.lst (pr z ga gb))=H17 at IS hg N6
   obtain⟨j,Qt,Qu⟩:=MW (z:=z) (a:=va) (b:=V.ref ub) (c:=gb)
   refine⟨_,rfl,_,_,rfl,rfl,gi,_,_,_,rfl,rfl,hE.of hg,Hq,_,rfl,_,rfl,_,_,rfl,rfl,fi,_,_,j,rfl,rfl,IS.i,Qt,?_⟩
   rw[Qu]
   have QF:=IS.put (pr z va gb)
   refine⟨(E.keep st px).keep st pz,[pz],gb,n+2,rfl,⟨QF.i,fun q hq=>QF.e q (by simpa using hq),fun q hq=>QF.r q ?_⟩,?_,⟨I15,by show(E.made++[px])++[pz]=_;simp,by rw[Ut];simp,rfl⟩,⟨fun p hp=>by rw[Tq.mp hp];exact cz.other,fun p hp=>by rw[Tq.mp hp];exact cz.nm,fun p hp=>by rw[Tq.mp hp];exact cz.file,fun p hp l hl=>?_,fun l hl=>?_⟩,z15,by omega,fun t _ ht=>(aak ht).trans (aak ht)⟩
   ·simp only [W3,aaP,abQ] at hq
    rcases hq with rfl|rfl|rfl|rfl|rfl<;>simp
   ·exact(Rg.same N6).put IS.i (IS.rp (x:=sh (E.iz st) fa) (by simp)) (IS.rp (x:=sh (E.iz st) fb) (by simp))
   ·rw[Tq.mp hp]
    exact cz.Cb Vs oy.symm (by rw[Nc];exact hl)
   ·intro w
    obtain⟨l',nS,e⟩:=List.mem_map.mp (cx.i3 _ w)
    have h1:=E6 IE nS
    obtain⟨p,hp,_,hl⟩:=i4.mp hl
    rw[Tq.mp hp] at hl
    rw[e,cz.own l hl] at h1
    exact Us.1 h1
  ·refine⟨E.keep st px,[],.ref ub,n+1,rfl,⟨HD.i,fun q hq=>HD.e q (by simpa using hq),fun q hq=>?_⟩,Yw,S1,⟨fun z hz=>(by cases hz),fun z hz=>(by cases hz),fun z hz=>(by cases hz),fun z hz=>(by cases hz),fun l hl=>(by cases hl)⟩,Yt,by omega,fun t _ ht=>aak ht⟩
   rw[aaa,F1] at hq
   refine HD.r q ?_
   simp only [W3,aaP,abQ] at hq
   rcases hq with rfl|rfl|rfl|rfl|rfl<;>simp
 rintro σ Vu ⟨Dd,Zs,wb,m,rfl,HD,Rg,S,zc,zm,hmn,Uw⟩
 have nfn:∀y∈[x0,x1,y2,y3,y4,y5],y∉E.names:=fun y hy=>(nf y hy).1
 obtain⟨⟨g2a,g2b⟩,⟨g3a,g3b⟩,⟨g4a,g4b⟩,⟨g5a,g5b⟩⟩:=SJ IE lG cx oy zc nfn nd
 obtain⟨_,goa,gob⟩:=yB (y2:=y2) IE Bw sub cx oy Nb.1 (nf y2 (by simp)).1 (by simp at nd;exact nd.1.2.1)
 have hN:∀{H':Hp} {fv:List V} {rs:List (V×Dv)},Hd H' fi fv [(ci,pr z ca (.ref uc)),(ti,pr z ta tb),(nm,gp [x0,x1,y2,y3,y4,y5]),(fs,gp (nP ns)),(bl,[.ref d,.ref ss,.ref fs])] rs→H' nm=some (.lst (gp [x0,x1,y2,y3,y4,y5]))∧H' fs=some (.lst (gp (nP ns)))∧H' bl=some (.lst [.ref d,.ref ss,.ref fs]):=fun h=>⟨h.l (by simp),h.l (by simp),h.l (by simp)⟩
 simp only [aaL,W3,aaP,abQ,not_or] at nd
 have Yx:=cx.nm
 have Vv:=zc.nm
 have old:∀{y:Str} {Bs:List Pt},y≠x0→y≠x1→y∉Bs.map (·.nm)→y∉([px]++Zs++Bs).map (·.nm):=fun{y Bs} h0 h1 hb hm=>by
  rw[aar,aar] at hm
  rcases W9.mp hm with hm|hm
  ·rcases W9.mp hm with hm|hm
   ·simp at hm;exact h0 (hm.trans Yx)
   ·obtain⟨q,hq,e⟩:=List.mem_map.mp hm
    exact h1 (e.symm.trans (Vv q hq))
  ·exact hb hm
 have fy2:=S.fresh (nf y2 (by simp)).1 (old (Bs:=[]) (fun e=>nd.1.2.1 e.symm) (fun e=>nd.2.1.1 e.symm) (by simp))
 have hx2:x0∈Dd.held st:=Yx▸S.held (p:=px) (by simp)
 obtain⟨π15,w15⟩:=id Rg
 refine⟨_,rfl,d,π15.dx,_,rfl,w15.hd,y_,_,rfl,_,rfl,nm,_,_,_,rfl,rfl,hE.of (hN HD).1,gH (j:=2) rfl rfl,_,rfl,nm,_,_,_,rfl,rfl,hE.of (hN HD).1,gH (j:=0) rfl rfl,d,Dd,W,st,y2,x0,rfl,Rg,S.inv,(zm.small (by omega)).many,Hw.ke,(nf y2 (by simp)).2.ke,Nb.2.ke,fun h=>absurd (by rw[S.stores];exact lG) h,fun _ h=>absurd (nf y2 (by simp)).2 h,fun _ _ h=>absurd h fy2,fun _ _ _ h=>absurd hx2 h,fun _ _ _ _ Uu X16 x16=>?_⟩
 have S2:=S.back lG fy2 hx2
 have z2:=zm.keep st (p:=bk y2 x0) (aaI _) (aaI _)
 replace HD:=HD.Cd Rg x16
 have Ux:∀t∈E.stores,t≠st→(Dd.keep st (bk y2 x0)).held t=E.held t:=fun t h1 h2=>(aak h2).trans (Uw t h1 h2)
 have Rh:∀{D':Dk} {Bs:List Pt} {f:Str},Ds E D' st px Zs Bs→sh (D'.iz st) f=sh (E.iz st++[px]++Zs++Bs) f:=fun h=>by rw[h.iz]
 refine⟨_,rfl,_,rfl,_,rfl,bl,_,_,_,rfl,rfl,hE.of (hN HD).2.2,gH (j:=2) rfl rfl,d,fs,Dd.keep st (bk y2 x0),W,st,nP ns,rfl,X16,S2.inv,z2.small (by omega),by rw[S2.stores];exact lG,Hw.ke,(hN HD).2.1,Fm,fun p17 H17 gv Uv Uy hv=>?_⟩
 rw[Ft] at hv
 refine⟨_,rfl,_,⟨p17,fi,rfl,rfl⟩,tD HD.i (HD.rp (x:=sh (E.iz st) fa) (by simp)) (HD.rp (x:=sh (E.iz st++[px]++Zs) fb) (by simp)) Uv Uy hv ((Rh S2).trans g2a) ((Rh S2).trans g2b),_,rfl,jz ?_⟩
 have Yy:=Uv.new (o:=.lst gv) Uy
 replace HD:=HD.same Yy
 generalize upd H17 p17 (.lst gv)=H18 at Yy HD
 have Yz:=X16.same Yy
 have hy2:y2∈(Dd.keep st (bk y2 x0)).held st:=S2.held (p:=bk y2 x0) (by simp)
 have YA:y2∈(Dd.keep st (bk y2 x0)).names:=(S2.inv.kF st (by rw[S2.stores];exact lG) _ hy2).1
 obtain⟨π18,w18⟩:=id Yz
 refine⟨_,rfl,d,π18.dx,_,rfl,w18.hd,C9,_,rfl,_,rfl,_,rfl,nm,_,_,_,rfl,rfl,hE.of (hN HD).1,gH (j:=2) rfl rfl,d,Dd.keep st (bk y2 x0),W,ot,st,y2,rfl,Yz,S2.inv,(z2.small (by omega)).many,got.ke,Hw.ke,(nf y2 (by simp)).2.ke,fun h=>absurd (by rw[S2.stores];exact Bw) h,fun _ h=>absurd (by rw[S2.stores];exact lG) h,fun _ _ h=>absurd hy2 h,fun _ _ _ cm Hm H19 Uz QE NS YB x19=>?_⟩
 have UA:lZ W H18 H19:=fun b o e n=>x19 b o (by rw[e_ (gj (Uz _ _ e) QE)];exact Uz _ _ e) n
 replace HD:=HD.Cd Yz UA
 have S3:Ds E ((Dd.keep st (bk y2 x0)).take ot y2) st px Zs ([]++[bk y2 x0]):=by
  refine⟨S2.inv.take (by rw[S2.stores];exact Bw) YA,S2.made,?_,S2.stores⟩
  rw[←S2.iz]
  unfold Dk.iz
  show List.filter (fun p:Pt=>decide (p.nm∈(if st=ot then _ else(Dd.keep st (bk y2 x0)).held st))) _=_
  rw[aak Rb]
  rfl
 have z3:Sz (m+1) ((Dd.keep st (bk y2 x0)).take ot y2):=⟨z2.many,z2.ir,z2.i3⟩
 have hzE:∀p∈Zs,p.nm∉E.names:=fun p hp=>by rw[Vv p hp];exact Us.1
 have YC:((Dd.keep st (bk y2 x0)).take ot y2).iz ot=E.iz ot++[px]++[bk y2 x0]:=by
  subst Yx
  refine KR (Zs:=Zs) (S3.made.trans (by simp)) (IF S IE lG Bw sub Nb.1 (nf y2 (by simp)).1 hzE (Ux ot Bw (abJ Rb))) Nb.1 (nf y2 (by simp)).1 fun p hp=>⟨fun h=>hzE p hp (IE.kF ot Bw _ h).1,?_,?_⟩
  ·rw[Vv p hp];exact fun e=>nd.1.1 e.symm
  ·rw[Vv p hp];exact nd.2.1.1
 generalize (Dd.keep st (bk y2 x0)).take ot y2=D3 at YB S3 z3 YC
 refine⟨_,rfl,_,rfl,_,rfl,bl,_,_,_,rfl,rfl,hE.of (hN HD).2.2,gH (j:=2) rfl rfl,d,fs,D3,W,ot,nP ns,rfl,YB,S3.inv,z3.small (by omega),by rw[S3.stores];exact Bw,got.ke,(hN HD).2.1,Fm,fun p20 H20 gv s20 UB hv=>?_⟩
 rw[Ft] at hv
 refine⟨_,rfl,_,⟨p20,ti,rfl,rfl⟩,tD (HD.l (a:=ti) (l:=pr z ta tb) (by simp)) (HD.rp (x:=sh (E.iz ot) fa) (by simp)) (HD.rp (x:=sh (E.iz ot) fb) (by simp)) s20 UB hv (by rw[YC];exact goa) (by rw[YC];exact gob),_,rfl,jz ?_⟩
 have YD:=s20.new (o:=.lst gv) UB
 replace HD:=HD.same YD
 generalize upd H20 p20 (.lst gv)=H21 at YD HD
 have YE:=YB.same YD
 have fy3:=S3.fresh (nf y3 (by simp)).1 (old (fun e=>nd.1.2.2.1 e.symm) (fun e=>nd.2.1.2.1 e.symm) (by simp[bk];exact fun e=>nd.2.2.1.1 e.symm))
 have hy3:y2∈D3.held st:=S3.held (p:=bk y2 x0) (by simp)
 obtain⟨π21,w21⟩:=id YE
 refine⟨_,rfl,d,π21.dx,_,rfl,w21.hd,y_,_,rfl,_,rfl,nm,_,_,_,rfl,rfl,hE.of (hN HD).1,gH (j:=3) rfl rfl,_,rfl,nm,_,_,_,rfl,rfl,hE.of (hN HD).1,gH (j:=2) rfl rfl,d,D3,W,st,y3,y2,rfl,YE,S3.inv,(z3.small (by omega)).many,Hw.ke,(nf y3 (by simp)).2.ke,(nf y2 (by simp)).2.ke,fun h=>absurd (by rw[S3.stores];exact lG) h,fun _ h=>absurd (nf y3 (by simp)).2 h,fun _ _ h=>absurd h fy3,fun _ _ _ h=>absurd hy3 h,fun _ _ _ _ H22 Vw x22=>?_⟩
 have S4:=S3.back lG fy3 hy3
 have z4:=z3.keep st (p:=bk y3 y2) (aaI _) (aaI _)
 replace HD:=HD.Cd YE x22
 have Vw:ia A H22 d (D3.keep st (bk y3 y2)) W:=Vw
 generalize D3.keep st (bk y3 y2)=D4 at Vw S4 z4
 refine⟨_,rfl,_,rfl,fi,_,_,_,rfl,rfl,hE.of HD.i,Ho,?_⟩
 have YF:y4∉([px]++Zs++([]++[bk y2 x0]++[bk y3 y2])).map (fun p:Pt=>p.nm):=old (fun e=>nd.1.2.2.2.1 e.symm) (fun e=>nd.2.1.2.2.1 e.symm) (by simp[bk];exact⟨fun e=>nd.2.2.1.2.1 e.symm,fun e=>nd.2.2.2.1.1 e.symm⟩)
 have YG:y5∉([px]++Zs++([]++[bk y2 x0]++[bk y3 y2]++[bk y4 y3])).map (fun p:Pt=>p.nm):=old (fun e=>nd.1.2.2.2.2 e.symm) (fun e=>nd.2.1.2.2.2 e.symm) (by simp[bk];exact⟨fun e=>nd.2.2.1.2.2 e.symm,fun e=>nd.2.2.2.1.2 e.symm,fun e=>nd.2.2.2.2.1 e.symm⟩)
 have N7:∀{H':Hp} {fv:List V},Hd H' fi fv [(ci,pr z ca (.ref uc)),(ti,pr z ta tb),(nm,gp [x0,x1,y2,y3,y4,y5]),(fs,gp (nP ns)),(bl,[.ref d,.ref ss,.ref fs])] [(wb,sh (E.iz st++[px]++Zs) fb),(ca,sh (E.iz st++[px]) fa),(tb,sh (E.iz ot) fb),(ta,sh (E.iz ot) fa),(va,sh (E.iz st) fa)]→Rep H' 3 ca (sh (E.iz st++[px]) fa)∧Rep H' 3 wb (sh (E.iz st++[px]++Zs) fb)∧Rep H' 3 va (sh (E.iz st) fa)∧H' ci=some (.lst (pr z ca (.ref uc))):=fun h=>⟨h.rp (by simp),h.rp (by simp),h.rp (by simp),h.l (by simp)⟩
 dsimp only [ma];refine IT ?_;intro _
 refine⟨_,_,rfl,⟨by decide,by decide,by decide,by decide⟩,?_⟩
 let Jv:=fun(i:Nat) (σ:St) (Nf:Hp)=>∃(IQ:Option V)(w0:V)(YH:List Dv)(YI:Dk)(Bs:List Pt),σ=[rr a,rr bl,rr d,rs st,rs ot,rr nm,ri (K0 z),v7,rr fi,rr ti,v10,rr ci,some va,IQ]∧Hd Nf fi (pr z w0 wb) [(ci,pr z ca (.ref uc)),(ti,pr z ta tb),(nm,gp [x0,x1,y2,y3,y4,y5]),(fs,gp (nP ns)),(bl,[.ref d,.ref ss,.ref fs])] [(wb,sh (E.iz st++[px]++Zs) fb),(ca,sh (E.iz st++[px]) fa),(tb,sh (E.iz ot) fb),(ta,sh (E.iz ot) fa),(va,sh (E.iz st) fa)]∧Rep Nf 3 w0 (.l YH)∧ia A Nf d YI W∧Ds E YI st px Zs Bs∧Sz (m+2+i) YI∧(i=0→Bs=[bk y2 x0,bk y3 y2])∧(i=1→Bs=[bk y2 x0,bk y3 y2,bk y4 y3])∧(i=2→Bs=[bk y2 x0,bk y3 y2,bk y4 y3,bk y5 y4])
 refine mi (lo:=4) (n:=2) Jv
  ⟨none,va,_,D4,_,rfl,HD,(N7 HD).2.2.1,Vw,S4,z4,fun _=>rfl,fun e=>(by cases e),fun e=>(by cases e)⟩ ?_ ?_
 ·rintro i σ Nf hi ⟨IQ,w0,YH,Dc,Bs,rfl,HD,r0,YJ,S5,z5,e0,e1,e2⟩
  obtain⟨wv,xs,yn,yo,NP,xp,Vj,hyo,ea,eb,WY,Qh,hho,Qo,Lg⟩:∃(wv:V)(xs:List Dv)(yn yo:Str),AZ [ca,va] ((4+(i:Int))%2)=some wv∧(wv,Dv.l xs)∈[(wb,sh (E.iz st++[px]++Zs) fb),(ca,sh (E.iz st++[px]) fa),(tb,sh (E.iz ot) fb),(ta,sh (E.iz ot) fa),(va,sh (E.iz st) fa)]∧AZ (gp [x0,x1,y2,y3,y4,y5]) (4+(i:Int))=some (.str yn)∧AZ (gp [x0,x1,y2,y3,y4,y5]) (4+(i:Int)-1)=some (.str yo)∧sh (E.iz st++[px]++Zs++Bs) fa=Dv.l xs∧sh (E.iz st++[px]++Zs++Bs) fb=sh (E.iz st++[px]++Zs) fb∧yn∉([px]++Zs++Bs).map (fun p:Pt=>p.nm)∧(yn∈[x0,x1,y2,y3,y4,y5]∧yo∈[x0,x1,y2,y3,y4,y5])∧(∃p∈Bs,p.nm=yo)∧(i+1=1→Bs++[bk yn yo]=[bk y2 x0,bk y3 y2,bk y4 y3])∧(i+1=2→Bs++[bk yn yo]=[bk y2 x0,bk y3 y2,bk y4 y3,bk y5 y4]):=by
   rcases(by omega:i=0∨i=1) with rfl|rfl
   ·cases e0 rfl
    exact⟨ca,_,y4,y3,gH (j:=0) rfl rfl,by simp[sh,IB],gH (j:=4) rfl rfl,gH (j:=3) rfl rfl,g3a,g3b,YF,⟨by simp,by simp⟩,⟨bk y3 y2,by simp,rfl⟩,fun _=>rfl,fun e=>by cases e⟩
   ·cases e1 rfl
    exact⟨va,_,y5,y4,gH (j:=1) rfl rfl,by simp[sh,IB],gH (j:=5) rfl rfl,gH (j:=4) rfl rfl,g4a,g4b,YG,⟨by simp,by simp⟩,⟨bk y4 y3,by simp,rfl⟩,fun e=>(by cases e),fun _=>rfl⟩
  refine⟨_,rfl,_,rfl,ci,_,_,_,rfl,rfl,hE.of (N7 HD).2.2.2,Ho,_,rfl,L2.j0,fun li hli=>?_⟩
  have Vx:=(gm.refl Nf).new (o:=.lst [ca,va]) hli
  have u24:(upd Nf li (.lst [ca,va])) li=some (.lst [ca,va]):=b_
  generalize upd Nf li (.lst [ca,va])=H24 at Vx u24
  replace HD:=HD.same Vx
  have Ri:=(YJ.same Vx).put (o:=.lst (pr z wv wb)) HD.i (r0.same Vx) (N7 HD).2.1
  obtain⟨j,Qt,Qu⟩:=K1 (z:=z) (a:=w0) (b:=wb) (c:=wv)
  refine⟨_,rfl,_,_,rfl,rfl,(by show(0:Int)<2;decide),li,_,_,_,rfl,rfl,hE.of u24,NP,_,rfl,_,rfl,fi,_,_,j,rfl,rfl,HD.i,Qt,?_⟩
  rw[Qu]
  replace HD:=HD.put (pr z wv wb)
  generalize upd H24 fi (.lst (pr z wv wb))=H25 at HD Ri
  refine⟨_,rfl,_,rfl,_,rfl,bl,_,_,_,rfl,rfl,hE.of (hN HD).2.2,gH (j:=2) rfl rfl,d,fs,Dc,W,st,nP ns,rfl,Ri,S5.inv,z5.small (by omega),by rw[S5.stores];exact lG,Hw.ke,(hN HD).2.1,Fm,fun p26 H26 gv N3 UC hv=>?_⟩
  rw[Ft] at hv
  refine⟨_,rfl,_,⟨p26,fi,rfl,rfl⟩,tD HD.i (HD.rp xp) (N7 HD).2.1 N3 UC hv ((Rh S5).trans ea) ((Rh S5).trans eb),_,rfl,jz ?_⟩
  have YK:=N3.new (o:=.lst gv) UC
  replace HD:=HD.same YK
  generalize upd H26 p26 (.lst gv)=H27 at YK HD
  have YL:=Ri.same YK
  obtain⟨π27,w27⟩:=id YL
  have fyn:=S5.fresh (nf yn Qh.1).1 WY
  have UD:yo∈Dc.held st:=by
   obtain⟨p,hp,e⟩:=hho
   exact e▸S5.held (p:=p) (aaG _ hp)
  refine⟨_,rfl,d,π27.dx,_,rfl,w27.hd,y_,_,rfl,_,rfl,_,rfl,nm,_,_,_,rfl,rfl,hE.of (hN HD).1,Vj,_,rfl,_,rfl,_,_,rfl,rfl,nm,_,_,_,rfl,rfl,hE.of (hN HD).1,hyo,d,Dc,W,st,yn,yo,rfl,YL,S5.inv,(z5.small (by omega)).many,Hw.ke,(nf yn Qh.1).2.ke,(nf yo Qh.2).2.ke,fun h=>absurd (by rw[S5.stores];exact lG) h,fun _ h=>absurd (nf yn Qh.1).2 h,fun _ _ h=>absurd h fyn,fun _ _ _ h=>absurd UD h,fun _ _ _ _ H28 X28 x28=>?_⟩
  replace HD:=HD.Cd YL x28
  exact⟨_,wv,xs,Dc.keep st (bk yn yo),Bs++[bk yn yo],rfl,HD,HD.rp xp,X28,S5.back lG fyn UD,z5.keep st (p:=bk yn yo) (aaI _) (aaI _),fun e=>(by cases e),Qo,Lg⟩
 rintro σ Nf ⟨IQ,w0,YH,Dc,Bs,rfl,HD,r0,YJ,S5,z5,_,_,e2⟩
 cases e2 rfl
 obtain⟨j,Qt,Qu⟩:=K1 (z:=z) (a:=w0) (b:=wb) (c:=ca)
 refine⟨_,rfl,_,rfl,ci,_,_,_,rfl,rfl,hE.of (N7 HD).2.2.2,Ho,_,rfl,_,rfl,fi,_,_,j,rfl,rfl,HD.i,Qt,?_⟩
 rw[Qu]
 have Ri:=YJ.put (o:=.lst (pr z ca wb)) HD.i r0 (N7 HD).2.1
 replace HD:=HD.put (pr z ca wb)
 generalize upd Nf fi (.lst (pr z ca wb))=H24 at HD Ri
 refine⟨_,rfl,_,rfl,_,rfl,bl,_,_,_,rfl,rfl,hE.of (hN HD).2.2,gH (j:=2) rfl rfl,d,fs,Dc,W,st,nP ns,rfl,Ri,S5.inv,z5.small (by omega),by rw[S5.stores];exact lG,Hw.ke,(hN HD).2.1,Fm,fun p25 H25 gv Qs YM hv=>?_⟩
 rw[Ft] at hv
 exact⟨_,rfl,_,⟨p25,fi,rfl,rfl⟩,tD HD.i (N7 HD).1 (N7 HD).2.1 Qs YM hv ((Rh S5).trans g5a) ((Rh S5).trans g5b),q _⟩
end
end PK
namespace TW
open PySem PySem.W L2 PK
noncomputable section
noncomputable abbrev S:=Str.ofString
noncomputable abbrev ob:=Obj.mk
noncomputable abbrev v(x:String)(t:Nat):Value:=.str (S x) t
noncomputable abbrev r:=Value.ref
noncomputable abbrev vi:=Value.int
noncomputable abbrev i(n:Int):=Value.int n 0
noncomputable abbrev vn:=Value.none
noncomputable abbrev w:=Value.type
noncomputable abbrev b:=Value.builtin
noncomputable abbrev vl:=Value.bool
noncomputable abbrev cl:=ClassData.mk
noncomputable abbrev k:=@some Value
noncomputable abbrev d(P:Params)(x:String)(t:Nat)(y:Value):DictEntry:=.mk (PyData.keyHash P (S x)) (v x t) y
noncomputable abbrev x:=top
noncomputable abbrev y(i j:Nat):=inClass (top i) j
noncomputable abbrev n:=BT.node
noncomputable abbrev z:=BT.nil
noncomputable abbrev f(o:Obj):BT:=n o z z
noncomputable abbrev of(c:String)(l:List Value):Obj:=ob (w c) none (.fields l.toArray) #[]
noncomputable abbrev tp(l:List Value):Obj:=ob (w "tuple") none (.seq l.toArray 0) #[]
noncomputable abbrev fl(l:List Value):Obj:=ob vn none (.fields l.toArray) #[]
noncomputable abbrev l3(l:List (Int×Int×Addr)):Obj:=fl (l.flatMap fun(a,b,c)=>[i a,i b,r c])
noncomputable abbrev fd(n q:Str)(st:Stmt)(g:Addr)(c:List (Str×Addr))(d kd doc pm:Value)(an:Option Addr)(co ct:Value)(b:Addr):FuncData:=⟨n,q,oM st,.stmts (k_ st),gc st,g,c,d,kd,doc,pm,an,co,ct,b⟩
noncomputable abbrev fn(a b:String)(st:Stmt)(m:String)(t:Nat)(c:Addr):Obj:=ob (w "function") none (.func (fd (S a) (S b) st 3 [] vn vn vn (v m t) none (r c) vn 0)) #[]
noncomputable abbrev fv(a b:String)(st:Stmt):Obj:=ob vn none (.func (fd (S a) (S b) st 0 [] vn vn vn vn none vn vn 0)) #[]
noncomputable abbrev dt(l:List DictEntry)(c:Nat):Obj:=ob (w "dict") none (.dict l.toArray c) #[]
noncomputable abbrev fr(l:List (Option Value)):Obj:=ob (w "frame") none .plain l.toArray
noncomputable abbrev ty(c:ClassData)(l:List (Option Value)):Obj:=ob (w "type") none (.cls c) l.toArray
noncomputable abbrev o0:Addr→Value|0=>vn|a+1=>r (a+1)
noncomputable abbrev co(a b:String)(t:Nat)(l p q:Int)(c:Addr)(g:Int)(ys:List Addr)(u:Nat):Obj:=of "code" ([v a t,v b (t+1),v "/claim/cut.py" (t+2),i l,i p,i 0,i 0,i q,r c,vl true,i g]++ys.map o0++[i u,i l,v "/claim/cut.py" (u+1)])
noncomputable def g7(P:Params):List DictEntry:=[(d P "__doc__" 166 vn),(d P "__package__" 167 vn),(d P "__loader__" 168 (b "__main__.__loader__#opaque")),(d P "__spec__" 169 vn),(d P "__annotations__" 170 (r 6)),(d P "__builtins__" 171 (r 4)),(d P "__file__" 173 (v "/claim/cut.py" 172)),(d P "__cached__" 174 vn),(d P "_wall" 193 (r 21)),(d P "counts_with" 206 (r 28)),(d P "most_pairs" 212 (r 33)),(d P "place_from" 222 (r 40)),(d P "kept" 235 (r 47)),(d P "PatchError" 255 (r 57))]
def g8(P:Params):List DictEntry:=g7 P++[(d P "BadName" 271 (r 70))]
def g9(P:Params):List DictEntry:=g8 P++[(d P "NameTaken" 287 (r 82))]
def ha(P:Params):List DictEntry:=g9 P++[(d P "NoStore" 303 (r 94))]
def hb(P:Params):List DictEntry:=ha P++[(d P "NoPatch" 319 (r 106))]
def hc(P:Params):List DictEntry:=hb P++[(d P "NoLine" 335 (r 118))]
def hd(P:Params):List DictEntry:=hc P++[(d P "Unsettled" 351 (r 130))]
def he(P:Params):List DictEntry:=hd P++[(d P "Same" 367 (r 142))]
def hf(P:Params):List DictEntry:=he P++[(d P "Leant" 383 (r 154))]
def hg(P:Params):List DictEntry:=hf P++[(d P "Line" 420 (r 173))]
def hh(P:Params):List DictEntry:=hg P++[(d P "Patch" 457 (r 194)),(d P "lines_named_by" 463 (r 203)),(d P "leans_straight_on" 469 (r 208)),(d P "live_patches" 479 (r 215)),(d P "lines_put" 489 (r 222)),(d P "standing_lines" 495 (r 227)),(d P "files_with_lines" 501 (r 232))]
def hi(P:Params):List DictEntry:=hh P++[(d P "straight_ahead" 510 (r 239)),(d P "joined" 520 (r 246)),(d P "all_ahead" 526 (r 251)),(d P "first_free" 534 (r 258)),(d P "row_of" 540 (r 263))]
def hj(P:Params):List DictEntry:=hi P++[(d P "Sight" 604 (r 308)),(d P "NAME_SIGNS" 608 (v "abcdefghijklmnopqrstuvwxyz0123456789" 607)),(d P "LONGEST_NAME" 610 (vi 12 609))]
def hk(P:Params):List DictEntry:=hj P++[(d P "check_name" 618 (r 319)),(d P "check_places" 628 (r 326)),(d P "kept_behind" 638 (r 333)),(d P "new_lines" 652 (r 340)),(d P "changing_patch" 658 (r 345))]
def hl(P:Params):List DictEntry:=hk P++[(d P "Desk" 861 (r 502))]
def hm(P:Params):List DictEntry:=hl P++[(d P "_law_cell_at" 871 (r 513)),(d P "_law_draw" 881 (r 520)),(d P "_law_name" 895 (r 527)),(d P "_law_text" 901 (r 532)),(d P "_law_edit" 915 (r 539)),(d P "_law_deed" 921 (r 544)),(d P "_law_desk" 927 (r 549)),(d P "_law_whole" 934 (r 556)),(d P "_law_row_form" 942 (r 563)),(d P "_law_pairs_form" 950 (r 570)),(d P "_law_seen" 956 (r 575)),(d P "_law_change" 962 (r 580)),(d P "law" 968 (r 585))]
def aa:Obj:=tp []
def ab:Obj:=fl []
def ac:Obj:=of "builtin_function_or_method" [(b "type.__prepare__"),(w "type")]
def ad:Obj:=tp [(r 57)]
def ae:Obj:=of "code" [(v "<module>" 182),(v "<module>" 183),(v "/claim/cut.py" 184),(i 1),(i 0),(i 0),(i 0),(i 0),(r 11),(vl false),(i 181),(r 12),vn,vn,vn,vn,(i 185),(i 1),(v "/claim/cut.py" 186)]
def af:Obj:=fr [(k (r 13)),(k (r 3)),(k (r 3)),none,(k (v "__main__" 164)),none,(k (r 0))]
noncomputable def ag:Obj:=fn "kept" "kept" (x 5) "patchkin.differ" 194 46
def ah:Obj:=co "place_from" "place_from" 213 18 3 3 34 181 [35,0,36,37,38] 220
def ai:Obj:=co "counts_with" "counts_with" 196 5 3 3 22 181 [23,0,24,25,26] 204
noncomputable def aj:Obj:=tp [(v "old" 226),(v "new" 227),(v "table" 228),(v "pairs" 229),(v "start" 230),(v "first" 231),(v "second" 232)]
def ak:Obj:=tp [(v "k" 190)]
def al:Obj:=fn "most_pairs" "most_pairs" (x 3) "patchkin.differ" 194 32
def am:Obj:=fn "_wall" "_wall" (x 0) "__main__" 164 20
def an:Obj:=co "most_pairs" "most_pairs" 207 13 2 3 29 181 [30,0,0,0,31] 210
def ao:Obj:=tp [(w "ValueError")]
def ap:Obj:=tp [(v "text" 199),(v "new" 200),(v "below" 201),(v "counts" 202),(v "second" 203)]
def aq:Obj:=fn "place_from" "place_from" (x 4) "patchkin.differ" 194 39
def ar(P:Params):Obj:=dt [(d P "__module__" 245 (v "patchkin.errors" 236)),(d P "__firstlineno__" 249 (vi 34 248)),(d P "__static_attributes__" 250 (r 55)),(d P "__weakref__" 252 (r 58)),(d P "__doc__" 253 vn)] 3
def au:Obj:=co "_wall" "_wall" 187 1 1 3 15 181 [16,0,17,18,19] 191
noncomputable def av:Obj:=tp [(v "texts" 216),(v "text" 217),(v "start" 218),(v "place" 219)]
def aw:Obj:=fn "counts_with" "counts_with" (x 2) "patchkin.differ" 194 27
def ax:Obj:=of "getset_descriptor" [(v "__weakref__" 251),(r 57),(b "ExceptionGroup.__weakref__"),vn]
noncomputable def ay:Obj:=co "kept" "kept" 223 23 2 3 41 181 [42,0,43,44,45] 233
def az:Obj:=fv "most_pairs" "most_pairs" (x 3)
def aA:Obj:=fv "_wall" "_wall" (x 0)
def aB:Obj:=of "super" [(r 57),(r 57),(r 57)]
def aC(P:Params):Obj:=dt [(d P "__module__" 263 (v "patchkin.errors" 236)),(d P "__firstlineno__" 267 (vi 36 266)),(d P "__static_attributes__" 268 (r 68)),(d P "__doc__" 269 vn)] 2
def aD:Obj:=of "code" [(v "PatchError" 240),(v "PatchError" 241),(v "/claim/cut.py" 242),(i 34),(i 0),(i 0),(i 0),(i 0),(r 51),(vl false),(i 181),(r 52),vn,vn,vn,vn,(i 243),(i 34),(v "/claim/cut.py" 244)]
noncomputable def aE:Obj:=fv "kept" "kept" (x 5)
def aF:Obj:=of "builtin_function_or_method" [(b "object.__init_subclass__"),(r 57)]
def aG(P:Params):Obj:=dt [(d P "__module__" 245 (v "patchkin.errors" 236)),(d P "__qualname__" 247 (v "PatchError" 246)),(d P "__firstlineno__" 249 (vi 34 248)),(d P "__static_attributes__" 250 (r 55))] 4
def aH:Obj:=fv "counts_with" "counts_with" (x 2)
def aI:Obj:=fv "place_from" "place_from" (x 4)
def aJ:Obj:=ty (cl (S "BadName") [(r 57)] [(r 70),(r 57),(w "ValueError"),(w "Exception"),(w "BaseException"),(w "object")] 69 (S "BadName") true [] [] false none false) [(k (r 61)),none,(k (v "BadName" 256)),(k (v "BadName" 264)),(k (b "ValueError.__new__")),(k (vl true))]
def aK:Obj:=fr [(k (r 53)),(k (r 3)),(k (r 50)),none,(k (v "patchkin.errors" 236)),none,(k (r 0))]
def aL(P:Params):Obj:=dt [(d P "__module__" 263 (v "patchkin.errors" 236)),(d P "__qualname__" 265 (v "BadName" 264)),(d P "__firstlineno__" 267 (vi 36 266)),(d P "__static_attributes__" 268 (r 68))] 4
def aM:Obj:=of "super" [(r 70),(r 70),(r 70)]
def aN:Obj:=fr [(k (r 66)),(k (r 3)),(k (r 63)),none,(k (v "patchkin.errors" 236)),none,(k (r 0))]
def aO(P:Params):Obj:=dt [(d P "__module__" 279 (v "patchkin.errors" 236)),(d P "__firstlineno__" 283 (vi 38 282)),(d P "__static_attributes__" 284 (r 80)),(d P "__doc__" 285 vn)] 2
def aP:Obj:=of "builtin_function_or_method" [(b "object.__init_subclass__"),(r 70)]
def aQ:Obj:=of "code" [(v "BadName" 258),(v "BadName" 259),(v "/claim/cut.py" 260),(i 36),(i 0),(i 0),(i 0),(i 0),(r 64),(vl false),(i 181),(r 65),vn,vn,vn,vn,(i 261),(i 36),(v "/claim/cut.py" 262)]
def aR:Obj:=ty (cl (S "NameTaken") [(r 57)] [(r 82),(r 57),(w "ValueError"),(w "Exception"),(w "BaseException"),(w "object")] 81 (S "NameTaken") true [] [] false none false) [(k (r 73)),none,(k (v "NameTaken" 272)),(k (v "NameTaken" 280)),(k (b "ValueError.__new__")),(k (vl true))]
def aS:Obj:=fr [(k (r 78)),(k (r 3)),(k (r 75)),none,(k (v "patchkin.errors" 236)),none,(k (r 0))]
def aT:Obj:=of "super" [(r 82),(r 82),(r 82)]
def aU(P:Params):Obj:=dt [(d P "__module__" 279 (v "patchkin.errors" 236)),(d P "__qualname__" 281 (v "NameTaken" 280)),(d P "__firstlineno__" 283 (vi 38 282)),(d P "__static_attributes__" 284 (r 80))] 4
def aV(P:Params):Obj:=dt [(d P "__module__" 295 (v "patchkin.errors" 236)),(d P "__firstlineno__" 299 (vi 40 298)),(d P "__static_attributes__" 300 (r 92)),(d P "__doc__" 301 vn)] 2
def aW:Obj:=of "builtin_function_or_method" [(b "object.__init_subclass__"),(r 82)]
def aX:Obj:=of "code" [(v "NameTaken" 274),(v "NameTaken" 275),(v "/claim/cut.py" 276),(i 38),(i 0),(i 0),(i 0),(i 0),(r 76),(vl false),(i 181),(r 77),vn,vn,vn,vn,(i 277),(i 38),(v "/claim/cut.py" 278)]
def aY:Obj:=ty (cl (S "NoStore") [(r 57)] [(r 94),(r 57),(w "ValueError"),(w "Exception"),(w "BaseException"),(w "object")] 93 (S "NoStore") true [] [] false none false) [(k (r 85)),none,(k (v "NoStore" 288)),(k (v "NoStore" 296)),(k (b "ValueError.__new__")),(k (vl true))]
def aZ:Obj:=of "super" [(r 94),(r 94),(r 94)]
def a0(P:Params):Obj:=dt [(d P "__module__" 295 (v "patchkin.errors" 236)),(d P "__qualname__" 297 (v "NoStore" 296)),(d P "__firstlineno__" 299 (vi 40 298)),(d P "__static_attributes__" 300 (r 92))] 4
def a1:Obj:=fr [(k (r 90)),(k (r 3)),(k (r 87)),none,(k (v "patchkin.errors" 236)),none,(k (r 0))]
def a2(P:Params):Obj:=dt [(d P "__module__" 311 (v "patchkin.errors" 236)),(d P "__firstlineno__" 315 (vi 42 314)),(d P "__static_attributes__" 316 (r 104)),(d P "__doc__" 317 vn)] 2
def a3:Obj:=of "builtin_function_or_method" [(b "object.__init_subclass__"),(r 94)]
def a4:Obj:=ty (cl (S "NoPatch") [(r 57)] [(r 106),(r 57),(w "ValueError"),(w "Exception"),(w "BaseException"),(w "object")] 105 (S "NoPatch") true [] [] false none false) [(k (r 97)),none,(k (v "NoPatch" 304)),(k (v "NoPatch" 312)),(k (b "ValueError.__new__")),(k (vl true))]
def a5:Obj:=of "code" [(v "NoStore" 290),(v "NoStore" 291),(v "/claim/cut.py" 292),(i 40),(i 0),(i 0),(i 0),(i 0),(r 88),(vl false),(i 181),(r 89),vn,vn,vn,vn,(i 293),(i 40),(v "/claim/cut.py" 294)]
def a6:Obj:=fr [(k (r 102)),(k (r 3)),(k (r 99)),none,(k (v "patchkin.errors" 236)),none,(k (r 0))]
def a7(P:Params):Obj:=dt [(d P "__module__" 311 (v "patchkin.errors" 236)),(d P "__qualname__" 313 (v "NoPatch" 312)),(d P "__firstlineno__" 315 (vi 42 314)),(d P "__static_attributes__" 316 (r 104))] 4
def a8:Obj:=of "super" [(r 106),(r 106),(r 106)]
def a9(P:Params):Obj:=dt [(d P "__module__" 327 (v "patchkin.errors" 236)),(d P "__firstlineno__" 331 (vi 44 330)),(d P "__static_attributes__" 332 (r 116)),(d P "__doc__" 333 vn)] 2
def ba:Obj:=of "builtin_function_or_method" [(b "object.__init_subclass__"),(r 106)]
def bb:Obj:=of "code" [(v "NoPatch" 306),(v "NoPatch" 307),(v "/claim/cut.py" 308),(i 42),(i 0),(i 0),(i 0),(i 0),(r 100),(vl false),(i 181),(r 101),vn,vn,vn,vn,(i 309),(i 42),(v "/claim/cut.py" 310)]
def bc:Obj:=ty (cl (S "NoLine") [(r 57)] [(r 118),(r 57),(w "ValueError"),(w "Exception"),(w "BaseException"),(w "object")] 117 (S "NoLine") true [] [] false none false) [(k (r 109)),none,(k (v "NoLine" 320)),(k (v "NoLine" 328)),(k (b "ValueError.__new__")),(k (vl true))]
def bd(P:Params):Obj:=dt [(d P "__module__" 327 (v "patchkin.errors" 236)),(d P "__qualname__" 329 (v "NoLine" 328)),(d P "__firstlineno__" 331 (vi 44 330)),(d P "__static_attributes__" 332 (r 116))] 4
def be:Obj:=of "super" [(r 118),(r 118),(r 118)]
def bf:Obj:=fr [(k (r 114)),(k (r 3)),(k (r 111)),none,(k (v "patchkin.errors" 236)),none,(k (r 0))]
def bg:Obj:=of "builtin_function_or_method" [(b "object.__init_subclass__"),(r 118)]
def bh:Obj:=of "code" [(v "NoLine" 322),(v "NoLine" 323),(v "/claim/cut.py" 324),(i 44),(i 0),(i 0),(i 0),(i 0),(r 112),(vl false),(i 181),(r 113),vn,vn,vn,vn,(i 325),(i 44),(v "/claim/cut.py" 326)]
def bi(P:Params):Obj:=dt [(d P "__module__" 343 (v "patchkin.errors" 236)),(d P "__firstlineno__" 347 (vi 46 346)),(d P "__static_attributes__" 348 (r 128)),(d P "__doc__" 349 vn)] 2
def bj:Obj:=ty (cl (S "Unsettled") [(r 57)] [(r 130),(r 57),(w "ValueError"),(w "Exception"),(w "BaseException"),(w "object")] 129 (S "Unsettled") true [] [] false none false) [(k (r 121)),none,(k (v "Unsettled" 336)),(k (v "Unsettled" 344)),(k (b "ValueError.__new__")),(k (vl true))]
def bk:Obj:=fr [(k (r 126)),(k (r 3)),(k (r 123)),none,(k (v "patchkin.errors" 236)),none,(k (r 0))]
def bl:Obj:=of "super" [(r 130),(r 130),(r 130)]
def bm(P:Params):Obj:=dt [(d P "__module__" 343 (v "patchkin.errors" 236)),(d P "__qualname__" 345 (v "Unsettled" 344)),(d P "__firstlineno__" 347 (vi 46 346)),(d P "__static_attributes__" 348 (r 128))] 4
def bn(P:Params):Obj:=dt [(d P "__module__" 359 (v "patchkin.errors" 236)),(d P "__firstlineno__" 363 (vi 48 362)),(d P "__static_attributes__" 364 (r 140)),(d P "__doc__" 365 vn)] 2
def bo:Obj:=of "builtin_function_or_method" [(b "object.__init_subclass__"),(r 130)]
def bp:Obj:=ty (cl (S "Same") [(r 57)] [(r 142),(r 57),(w "ValueError"),(w "Exception"),(w "BaseException"),(w "object")] 141 (S "Same") true [] [] false none false) [(k (r 133)),none,(k (v "Same" 352)),(k (v "Same" 360)),(k (b "ValueError.__new__")),(k (vl true))]
def bq:Obj:=of "code" [(v "Unsettled" 338),(v "Unsettled" 339),(v "/claim/cut.py" 340),(i 46),(i 0),(i 0),(i 0),(i 0),(r 124),(vl false),(i 181),(r 125),vn,vn,vn,vn,(i 341),(i 46),(v "/claim/cut.py" 342)]
def br:Obj:=of "super" [(r 142),(r 142),(r 142)]
def bs(P:Params):Obj:=dt [(d P "__module__" 359 (v "patchkin.errors" 236)),(d P "__qualname__" 361 (v "Same" 360)),(d P "__firstlineno__" 363 (vi 48 362)),(d P "__static_attributes__" 364 (r 140))] 4
def bt:Obj:=fr [(k (r 138)),(k (r 3)),(k (r 135)),none,(k (v "patchkin.errors" 236)),none,(k (r 0))]
def bu:Obj:=ty (cl (S "PatchError") [(w "ValueError")] [(r 57),(w "ValueError"),(w "Exception"),(w "BaseException"),(w "object")] 56 (S "PatchError") true [] [(r 70),(r 82),(r 94),(r 106),(r 118),(r 130),(r 142),(r 154)] false none false) [(k (r 48)),none,(k (v "PatchError" 238)),(k (v "PatchError" 246)),(k (b "ValueError.__new__")),(k (vl true))]
def bv(P:Params):Obj:=dt [(d P "__module__" 375 (v "patchkin.errors" 236)),(d P "__firstlineno__" 379 (vi 50 378)),(d P "__static_attributes__" 380 (r 152)),(d P "__doc__" 381 vn)] 2
def bw:Obj:=of "builtin_function_or_method" [(b "object.__init_subclass__"),(r 142)]
def bx:Obj:=of "code" [(v "Same" 354),(v "Same" 355),(v "/claim/cut.py" 356),(i 48),(i 0),(i 0),(i 0),(i 0),(r 136),(vl false),(i 181),(r 137),vn,vn,vn,vn,(i 357),(i 48),(v "/claim/cut.py" 358)]
def bz:Obj:=ty (cl (S "Leant") [(r 57)] [(r 154),(r 57),(w "ValueError"),(w "Exception"),(w "BaseException"),(w "object")] 153 (S "Leant") true [] [] false none false) [(k (r 145)),none,(k (v "Leant" 368)),(k (v "Leant" 376)),(k (b "ValueError.__new__")),(k (vl true))]
def bA:Obj:=of "getset_descriptor" [(v "__weakref__" 416),(r 173),(b "ExceptionGroup.__weakref__"),vn]
def bB:Obj:=fr [(k (r 150)),(k (r 3)),(k (r 147)),none,(k (v "patchkin.errors" 236)),none,(k (r 0))]
def bC(P:Params):Obj:=dt [(d P "__module__" 375 (v "patchkin.errors" 236)),(d P "__qualname__" 377 (v "Leant" 376)),(d P "__firstlineno__" 379 (vi 50 378)),(d P "__static_attributes__" 380 (r 152))] 4
def bD:Obj:=tp [(v "lower_name" 409),(v "name" 410),(v "text" 411),(v "upper_name" 412)]
def bE:Obj:=of "super" [(r 154),(r 154),(r 154)]
def bF:Obj:=co "__init__" "Line.__init__" 398 55 5 3 164 181 [165,0,166,167,168] 406
def bG:Obj:=ty (cl (S "Line") [(w "object")] [(r 173),(w "object")] 172 (S "Line") true [] [] false none false) [none,none,(k (v "Line" 386)),(k (v "Line" 394)),(k (b "object.__new__")),(k (vl true))]
def bH(P:Params):Obj:=dt [(d P "__module__" 393 (v "patchkin.order" 384)),(d P "__firstlineno__" 397 (vi 53 396)),(d P "__init__" 408 (r 170)),(d P "__static_attributes__" 413 (r 171)),(d P "__dict__" 415 (r 174)),(d P "__weakref__" 417 (r 175)),(d P "__doc__" 418 vn)] 4
def bI:Obj:=of "builtin_function_or_method" [(b "object.__init_subclass__"),(r 154)]
def bJ:Obj:=fn "__init__" "Line.__init__" (y 17 0) "patchkin.order" 384 169
def bK:Obj:=tp [(v "self" 401),(v "name" 402),(v "text" 403),(v "upper_name" 404),(v "lower_name" 405)]
def bL:Obj:=of "code" [(v "Leant" 370),(v "Leant" 371),(v "/claim/cut.py" 372),(i 50),(i 0),(i 0),(i 0),(i 0),(r 148),(vl false),(i 181),(r 149),vn,vn,vn,vn,(i 373),(i 50),(v "/claim/cut.py" 374)]
def bM:Obj:=of "getset_descriptor" [(v "__dict__" 414),(r 173),(b "function.__dict__"),(b "function.__dict__#set")]
def bN:Obj:=fn "__init__" "Patch.__init__" (y 18 0) "patchkin.order" 384 190
def bO(P:Params):Obj:=dt [(d P "__module__" 393 (v "patchkin.order" 384)),(d P "__qualname__" 395 (v "Line" 394)),(d P "__firstlineno__" 397 (vi 53 396)),(d P "__init__" 408 (r 170)),(d P "__static_attributes__" 413 (r 171))] 5
def bP:Obj:=co "leans_straight_on" "leans_straight_on" 464 74 1 3 204 181 [205,0,0,0,206] 467
def bQ:Obj:=co "files_with_lines" "files_with_lines" 496 101 1 3 228 181 [229,0,0,0,230] 499
def bR:Obj:=fn "live_patches" "live_patches" (x 21) "patchkin.order" 384 214
def bS:Obj:=of "getset_descriptor" [(v "__dict__" 451),(r 194),(b "function.__dict__"),(b "function.__dict__#set")]
def bT:Obj:=fr [(k (r 162)),(k (r 3)),(k (r 159)),none,(k (v "patchkin.order" 384)),none,(k (r 0))]
def bU:Obj:=fn "standing_lines" "standing_lines" (x 23) "patchkin.order" 384 226
noncomputable def bV:Obj:=tp [(v "patches" 473),(v "taken_back" 474),(v "live" 475),(v "patch" 476)]
def bW:Obj:=fn "lines_named_by" "lines_named_by" (x 19) "patchkin.order" 384 202
def bX:Obj:=tp [(v "self" 436),(v "name" 437),(v "file" 438),(v "puts" 439),(v "cuts" 440),(v "other" 441)]
def bY(P:Params):Obj:=dt [(d P "__module__" 428 (v "patchkin.order" 384)),(d P "__firstlineno__" 432 (vi 60 431)),(d P "__init__" 444 (r 191)),(d P "__static_attributes__" 450 (r 192)),(d P "__dict__" 452 (r 195)),(d P "__weakref__" 454 (r 196)),(d P "__doc__" 455 vn)] 4
def bZ:Obj:=l3 [(55,4,169)]
def b0:Obj:=of "builtin_function_or_method" [(b "object.__init_subclass__"),(r 173)]
def b1:Obj:=co "lines_put" "lines_put" 480 88 2 3 216 181 [217,0,218,219,220] 487
def b2:Obj:=tp [(v "cuts" 445),(v "file" 446),(v "name" 447),(v "other" 448),(v "puts" 449)]
def b3:Obj:=fn "leans_straight_on" "leans_straight_on" (x 20) "patchkin.order" 384 207
def b4:Obj:=of "super" [(r 173),(r 173),(r 173)]
def b5:Obj:=fv "__init__" "Line.__init__" (y 17 0)
def b6:Obj:=fn "files_with_lines" "files_with_lines" (x 24) "patchkin.order" 384 231
def b7:Obj:=of "getset_descriptor" [(v "__weakref__" 453),(r 194),(b "ExceptionGroup.__weakref__"),vn]
def b8:Obj:=ty (cl (S "Patch") [(w "object")] [(r 194),(w "object")] 193 (S "Patch") true [] [] false none false) [none,none,(k (v "Patch" 421)),(k (v "Patch" 429)),(k (b "object.__new__")),(k (vl true))]
def b9:Obj:=of "code" [(v "Line" 388),(v "Line" 389),(v "/claim/cut.py" 390),(i 53),(i 0),(i 0),(i 0),(i 0),(r 160),(vl false),(i 181),(r 161),vn,vn,vn,vn,(i 391),(i 53),(v "/claim/cut.py" 392)]
def ca:Obj:=co "standing_lines" "standing_lines" 490 94 2 3 223 181 [224,0,0,0,225] 493
def cb:Obj:=co "lines_named_by" "lines_named_by" 458 68 1 3 199 181 [200,0,0,0,201] 461
def cc:Obj:=tp [(v "patches" 483),(v "file" 484),(v "lines" 485),(v "patch" 486)]
def cd:Obj:=co "live_patches" "live_patches" 470 79 1 3 209 181 [210,0,211,212,213] 477
def ce:Obj:=fn "lines_put" "lines_put" (x 22) "patchkin.order" 384 221
def cf:Obj:=co "__init__" "Patch.__init__" 433 62 6 3 185 181 [186,0,187,188,189] 442
def cg:Obj:=fn "straight_ahead" "straight_ahead" (x 25) "patchkin.order" 384 238
def ch:Obj:=fn "row_of" "row_of" (x 29) "patchkin.order" 384 262
def ci:Obj:=of "code" [(v "Patch" 423),(v "Patch" 424),(v "/claim/cut.py" 425),(i 60),(i 0),(i 0),(i 0),(i 0),(r 181),(vl false),(i 181),(r 182),vn,vn,vn,vn,(i 426),(i 60),(v "/claim/cut.py" 427)]
def cj:Obj:=tp [(v "lines" 505),(v "straight" 506),(v "line" 507)]
def ck:Obj:=fn "all_ahead" "all_ahead" (x 27) "patchkin.order" 384 250
def cm:Obj:=co "first_free" "first_free" 527 136 1 3 252 181 [253,0,254,255,256] 532
def cn:Obj:=fv "standing_lines" "standing_lines" (x 23)
def cp:Obj:=fv "lines_named_by" "lines_named_by" (x 19)
def cq:Obj:=of "super" [(r 194),(r 194),(r 194)]
def cr:Obj:=fv "live_patches" "live_patches" (x 21)
def cs:Obj:=co "joined" "joined" 511 114 2 3 240 181 [241,0,242,243,244] 518
def ct:Obj:=fv "__init__" "Patch.__init__" (y 18 0)
def cu:Obj:=fr [(k (r 183)),(k (r 3)),(k (r 180)),none,(k (v "patchkin.order" 384)),none,(k (r 0))]
def cv(P:Params):Obj:=dt [(d P "__module__" 428 (v "patchkin.order" 384)),(d P "__qualname__" 430 (v "Patch" 429)),(d P "__firstlineno__" 432 (vi 60 431)),(d P "__init__" 444 (r 191)),(d P "__static_attributes__" 450 (r 192))] 5
def cw:Obj:=fv "lines_put" "lines_put" (x 22)
def cx:Obj:=fn "first_free" "first_free" (x 28) "patchkin.order" 384 257
noncomputable def cy:Obj:=tp [(v "names" 514),(v "ahead" 515),(v "found" 516),(v "name" 517)]
def cz:Obj:=co "all_ahead" "all_ahead" 521 120 1 3 247 181 [248,0,0,0,249] 524
def cA:Obj:=co "row_of" "row_of" 535 141 2 3 259 181 [260,0,0,0,261] 538
def cB:Obj:=of "builtin_function_or_method" [(b "object.__init_subclass__"),(r 194)]
def cC:Obj:=fv "files_with_lines" "files_with_lines" (x 24)
def cD:Obj:=l3 [(62,4,190)]
def cE:Obj:=fn "joined" "joined" (x 26) "patchkin.order" 384 245
def cF:Obj:=fv "leans_straight_on" "leans_straight_on" (x 20)
def cG:Obj:=co "straight_ahead" "straight_ahead" 502 104 1 3 233 181 [234,0,235,236,237] 508
def cH:Obj:=tp [(v "waiting" 530),(v "name" 531)]
def cI:Obj:=tp [(v "self" 574),(v "pairs" 575),(v "first" 576),(v "second" 577)]
def cJ:Obj:=fn "quarrelling" "Sight.quarrelling" (y 30 2) "patchkin.order" 384 290
def cK(P:Params):Obj:=dt [(d P "__module__" 548 (v "patchkin.order" 384)),(d P "__firstlineno__" 552 (vi 156 551)),(d P "__init__" 561 (r 277)),(d P "is_ahead" 570 (r 284)),(d P "quarrelling" 580 (r 291)),(d P "most_from" 587 (r 298)),(d P "staying" 594 (r 305)),(d P "__static_attributes__" 597 (r 306)),(d P "__dict__" 599 (r 309)),(d P "__weakref__" 601 (r 310)),(d P "__doc__" 602 vn)] 4
def cL:Obj:=co "is_ahead" "Sight.is_ahead" 562 162 3 3 278 181 [279,0,280,281,282] 568
def cM:Obj:=tp [(v "self" 556),(v "patches" 557),(v "file" 558)]
def cN:Obj:=fn "staying" "Sight.staying" (y 30 4) "patchkin.order" 384 304
def cO:Obj:=co "most_from" "Sight.most_from" 581 173 1 3 292 181 [293,0,294,295,296] 585
def cP:Obj:=fv "all_ahead" "all_ahead" (x 27)
def cQ:Obj:=fv "row_of" "row_of" (x 29)
def cR:Obj:=fn "__init__" "Sight.__init__" (y 30 0) "patchkin.order" 384 276
def cS:Obj:=of "getset_descriptor" [(v "__dict__" 598),(r 308),(b "function.__dict__"),(b "function.__dict__#set")]
def cT:Obj:=tp [(v "self" 591)]
def cU:Obj:=fv "straight_ahead" "straight_ahead" (x 25)
def cV:Obj:=fv "first_free" "first_free" (x 28)
def cW:Obj:=co "staying" "Sight.staying" 588 176 1 3 299 181 [300,0,301,302,303] 592
def cX:Obj:=tp [(v "self" 565),(v "first" 566),(v "second" 567)]
def cY:Obj:=co "__init__" "Sight.__init__" 553 158 3 3 271 181 [272,0,273,274,275] 559
def cZ:Obj:=ty (cl (S "Sight") [(w "object")] [(r 308),(w "object")] 307 (S "Sight") true [] [] false none false) [none,none,(k (v "Sight" 541)),(k (v "Sight" 549)),(k (b "object.__new__")),(k (vl true))]
def c0:Obj:=fv "joined" "joined" (x 26)
def c1:Obj:=fn "is_ahead" "Sight.is_ahead" (y 30 1) "patchkin.order" 384 283
def c2:Obj:=co "quarrelling" "Sight.quarrelling" 571 165 1 3 285 181 [286,0,287,288,289] 578
def c3:Obj:=tp [(v "ahead" 595),(v "lines" 596)]
def c4:Obj:=fn "most_from" "Sight.most_from" (y 30 3) "patchkin.order" 384 297
def c5:Obj:=tp [(v "self" 584)]
def c6:Obj:=of "getset_descriptor" [(v "__weakref__" 600),(r 308),(b "ExceptionGroup.__weakref__"),vn]
def c7:Obj:=fn "check_name" "check_name" (x 34) "patchkin.desk" 605 318
def c8:Obj:=fv "staying" "Sight.staying" (y 30 4)
def c9:Obj:=of "super" [(r 308),(r 308),(r 308)]
def da:Obj:=fv "__init__" "Sight.__init__" (y 30 0)
def db:Obj:=co "new_lines" "new_lines" 639 198 3 3 334 181 [335,0,336,337,338] 650
def dc:Obj:=tp [(v "name" 614),(v "sign" 615)]
def df:Obj:=fv "quarrelling" "Sight.quarrelling" (y 30 2)
def dg:Obj:=tp [(v "kept_names" 632),(v "size" 633),(v "behind" 634),(v "place" 635)]
def dh:Obj:=fn "changing_patch" "changing_patch" (x 38) "patchkin.desk" 605 344
def di:Obj:=co "check_places" "check_places" 619 187 2 3 320 181 [321,0,322,323,324] 626
def dj:Obj:=of "code" [(v "Sight" 543),(v "Sight" 544),(v "/claim/cut.py" 545),(i 156),(i 0),(i 0),(i 0),(i 0),(r 267),(vl false),(i 181),(r 268),vn,vn,vn,vn,(i 546),(i 156),(v "/claim/cut.py" 547)]
def dk:Obj:=fn "kept_behind" "kept_behind" (x 36) "patchkin.desk" 605 332
def dl:Obj:=tp [(v "patch" 642),(v "texts" 643),(v "kept_names" 644),(v "behind" 645),(v "lines" 646),(v "upper_name" 647),(v "place" 648),(v "text" 649)]
def dm:Obj:=fv "most_from" "Sight.most_from" (y 30 3)
def dn:Obj:=co "changing_patch" "changing_patch" 653 209 4 3 341 181 [342,0,0,0,343] 656
def dp:Obj:=of "builtin_function_or_method" [(b "object.__init_subclass__"),(r 308)]
def dq:Obj:=fn "new_lines" "new_lines" (x 37) "patchkin.desk" 605 339
def dr:Obj:=l3 [(158,4,276),(162,4,283),(165,4,290),(173,4,297),(176,4,304)]
def ds:Obj:=co "kept_behind" "kept_behind" 629 193 2 3 327 181 [328,0,329,330,331] 636
def du:Obj:=tp [(v "places" 622),(v "size" 623),(v "least" 624),(v "place" 625)]
def dv(P:Params):Obj:=dt [(d P "__module__" 548 (v "patchkin.order" 384)),(d P "__qualname__" 550 (v "Sight" 549)),(d P "__firstlineno__" 552 (vi 156 551)),(d P "__init__" 561 (r 277)),(d P "is_ahead" 570 (r 284)),(d P "quarrelling" 580 (r 291)),(d P "most_from" 587 (r 298)),(d P "staying" 594 (r 305)),(d P "__static_attributes__" 597 (r 306))] 9
def dw:Obj:=fv "is_ahead" "Sight.is_ahead" (y 30 1)
def dx:Obj:=fn "check_places" "check_places" (x 35) "patchkin.desk" 605 325
def dy:Obj:=fr [(k (r 269)),(k (r 3)),(k (r 266)),none,(k (v "patchkin.order" 384)),none,(k (r 0))]
def dz:Obj:=co "check_name" "check_name" 611 181 1 3 313 181 [314,0,315,316,317] 616
def dA:Obj:=fn "__init__" "Desk.__init__" (y 39 0) "patchkin.desk" 605 358
noncomputable def dB:Obj:=fn "take" "Desk.take" (y 39 8) "patchkin.desk" 605 406
def dC:Obj:=fv "changing_patch" "changing_patch" (x 38)
noncomputable def dD:Obj:=fn "leans" "Desk.leans" (y 39 10) "patchkin.desk" 605 418
def dE:Obj:=tp [(v "self" 674)]
def dF:Obj:=fn "cut" "Desk.cut" (y 39 6) "patchkin.desk" 605 394
def dG:Obj:=fv "kept_behind" "kept_behind" (x 36)
def dH:Obj:=co "patches" "Desk.patches" 693 233 1 3 374 181 [375,0,376,377,378] 697
noncomputable def dI:Obj:=fn "has" "Desk.has" (y 39 4) "patchkin.desk" 605 384
def dJ:Obj:=co "back" "Desk.back" 718 259 4 3 396 181 [397,0,398,399,400] 725
def dK:Obj:=tp [(v "self" 689)]
def dL:Obj:=co "told" "Desk.told" 750 287 2 3 420 181 [421,0,422,423,424] 755
def dM:Obj:=co "record" "Desk.record" 706 240 5 3 386 181 [387,0,0,0,388] 709
def dN:Obj:=fn "stores" "Desk.stores" (y 39 2) "patchkin.desk" 605 372
noncomputable def dO:Obj:=co "begin" "Desk.begin" 678 224 2 3 360 181 [361,0,362,363,364] 683
noncomputable def dP:Obj:=co "drop" "Desk.drop" 734 275 3 3 408 181 [409,0,410,411,412] 741
def dQ:Obj:=fv "check_name" "check_name" (x 34)
noncomputable def dR:Obj:=co "has" "Desk.has" 700 236 2 3 381 181 [382,0,0,0,383] 703
def dS:Obj:=tp [(v "self" 696)]
def dT:Obj:=fv "check_places" "check_places" (x 35)
def dU:Obj:=co "stores" "Desk.stores" 686 230 1 3 367 181 [368,0,369,370,371] 690
def dV:Obj:=fn "patches" "Desk.patches" (y 39 3) "patchkin.desk" 605 379
noncomputable def dW:Obj:=co "leans" "Desk.leans" 744 283 2 3 415 181 [416,0,0,0,417] 747
def dX:Obj:=fn "back" "Desk.back" (y 39 7) "patchkin.desk" 605 401
def dY:Obj:=fv "new_lines" "new_lines" (x 37)
def dZ:Obj:=co "cut" "Desk.cut" 712 250 5 3 391 181 [392,0,0,0,393] 715
def d0:Obj:=tp [(v "self" 681),(v "store" 682)]
def d1:Obj:=tp [(v "self" 737),(v "store" 738),(v "patch" 739),(v "name" 740)]
def d2:Obj:=fn "record" "Desk.record" (y 39 5) "patchkin.desk" 605 389
def d3:Obj:=tp [(v "self" 753),(v "patch" 754)]
def d4:Obj:=co "__init__" "Desk.__init__" 671 219 1 3 353 181 [354,0,355,356,357] 675
noncomputable def d5:Obj:=co "take" "Desk.take" 728 265 4 3 403 181 [404,0,0,0,405] 731
def d6:Obj:=tp [(v "self" 721),(v "store" 722),(v "patch" 723),(v "other" 724)]
noncomputable def d7:Obj:=fn "begin" "Desk.begin" (y 39 1) "patchkin.desk" 605 365
noncomputable def d8:Obj:=fn "drop" "Desk.drop" (y 39 9) "patchkin.desk" 605 413
noncomputable def d9:Obj:=fv "has" "Desk.has" (y 39 4)
def ea:Obj:=of "code" [(v "Desk" 661),(v "Desk" 662),(v "/claim/cut.py" 663),(i 217),(i 0),(i 0),(i 0),(i 0),(r 349),(vl false),(i 181),(r 350),vn,vn,vn,vn,(i 664),(i 217),(v "/claim/cut.py" 665)]
def eb:Obj:=fv "stores" "Desk.stores" (y 39 2)
noncomputable def ec:Obj:=fv "leans" "Desk.leans" (y 39 10)
def ed:Obj:=fv "cut" "Desk.cut" (y 39 6)
def ee:Obj:=fv "__init__" "Desk.__init__" (y 39 0)
noncomputable def ef:Obj:=fv "take" "Desk.take" (y 39 8)
def eg:Obj:=fr [(k (r 351)),(k (r 3)),(k (r 348)),none,(k (v "patchkin.desk" 605)),none,(k (r 0))]
def eh:Obj:=fv "back" "Desk.back" (y 39 7)
def ei:Obj:=fv "told" "Desk.told" (y 39 11)
def ej:Obj:=fv "record" "Desk.record" (y 39 5)
noncomputable def ek:Obj:=fv "begin" "Desk.begin" (y 39 1)
noncomputable def el:Obj:=fv "drop" "Desk.drop" (y 39 9)
def em:Obj:=fv "patches" "Desk.patches" (y 39 3)
def en:Obj:=co "sight_of" "Desk.sight_of" 796 305 3 3 458 181 [459,0,460,461,462] 802
def eo:Obj:=tp [(v "self" 843),(v "store" 844),(v "patch" 845),(v "needs" 846),(v "name" 847)]
def ep:Obj:=fn "check_store" "Desk.check_store" (y 39 18) "patchkin.desk" 605 470
def eq:Obj:=of "getset_descriptor" [(v "__dict__" 855),(r 502),(b "function.__dict__"),(b "function.__dict__#set")]
def er:Obj:=co "stay" "Desk.stay" 781 299 3 3 446 181 [447,0,448,449,450] 787
def es:Obj:=tp [(v "self" 808),(v "store" 809)]
noncomputable def et:Obj:=fn "keep" "Desk.keep" (y 39 22) "patchkin.desk" 605 498
def eu:Obj:=co "check_new" "Desk.check_new" 830 320 3 3 486 181 [487,0,488,489,490] 837
def ev:Obj:=tp [(v "self" 824),(v "store" 825),(v "patch" 826)]
def ew:Obj:=fn "files" "Desk.files" (y 39 12) "patchkin.desk" 605 432
def ex:Obj:=fn "patches_of" "Desk.patches_of" (y 39 16) "patchkin.desk" 605 456
def ey:Obj:=tp [(v "self" 775),(v "store" 776),(v "file" 777)]
def ez:Obj:=fn "check_held" "Desk.check_held" (y 39 20) "patchkin.desk" 605 484
def eA:Obj:=co "row" "Desk.row" 766 293 3 3 434 181 [435,0,0,0,436] 769
noncomputable def eB(P:Params):Obj:=dt [(d P "__module__" 666 (v "patchkin.desk" 605)),(d P "__firstlineno__" 670 (vi 217 669)),(d P "__init__" 677 (r 359)),(d P "begin" 685 (r 366)),(d P "stores" 692 (r 373)),(d P "patches" 699 (r 380)),(d P "has" 705 (r 385)),(d P "record" 711 (r 390)),(d P "cut" 717 (r 395)),(d P "back" 727 (r 402)),(d P "take" 733 (r 407)),(d P "drop" 743 (r 414)),(d P "leans" 749 (r 419)),(d P "told" 757 (r 426)),(d P "files" 765 (r 433)),(d P "row" 771 (r 438)),(d P "quarrels" 780 (r 445)),(d P "stay" 789 (r 452)),(d P "patches_of" 795 (r 457)),(d P "sight_of" 804 (r 464)),(d P "check_store" 812 (r 471)),(d P "check_made" 820 (r 478)),(d P "check_held" 829 (r 485)),(d P "check_new" 839 (r 492)),(d P "keep" 850 (r 499)),(d P "__static_attributes__" 854 (r 500)),(d P "__dict__" 856 (r 503)),(d P "__weakref__" 858 (r 504)),(d P "__doc__" 859 vn)] 4
def eC:Obj:=tp [(v "self" 761),(v "store" 762)]
def eD:Obj:=co "check_made" "Desk.check_made" 813 312 2 3 472 181 [473,0,474,475,476] 818
def eE:Obj:=fn "quarrels" "Desk.quarrels" (y 39 14) "patchkin.desk" 605 444
def eF:Obj:=tp [(v "self" 784),(v "store" 785),(v "file" 786)]
def eG:Obj:=fn "sight_of" "Desk.sight_of" (y 39 17) "patchkin.desk" 605 463
def eH:Obj:=co "files" "Desk.files" 758 290 2 3 427 181 [428,0,429,430,431] 763
def eI:Obj:=co "patches_of" "Desk.patches_of" 790 302 2 3 453 181 [454,0,0,0,455] 793
def eJ:Obj:=tp [(v "self" 833),(v "patch" 834),(v "files" 835),(v "name" 836)]
def eK:Obj:=of "getset_descriptor" [(v "__weakref__" 857),(r 502),(b "ExceptionGroup.__weakref__"),vn]
def eL:Obj:=fn "stay" "Desk.stay" (y 39 15) "patchkin.desk" 605 451
def eM:Obj:=co "check_held" "Desk.check_held" 821 316 3 3 479 181 [480,0,481,482,483] 827
def eN:Obj:=tp [(v "held" 851),(v "made" 852),(v "needs" 853)]
def eO:Obj:=tp [(v "self" 799),(v "store" 800),(v "file" 801)]
def eP:Obj:=fn "check_new" "Desk.check_new" (y 39 21) "patchkin.desk" 605 491
def eQ:Obj:=co "quarrels" "Desk.quarrels" 772 296 3 3 439 181 [440,0,441,442,443] 778
noncomputable def eR:Obj:=co "keep" "Desk.keep" 840 326 3 3 493 181 [494,0,495,496,497] 848
def eS:Obj:=fn "told" "Desk.told" (y 39 11) "patchkin.desk" 605 425
def eT:Obj:=tp [(v "self" 816),(v "patch" 817)]
def eU:Obj:=co "check_store" "Desk.check_store" 805 308 2 3 465 181 [466,0,467,468,469] 810
def eV:Obj:=fn "row" "Desk.row" (y 39 13) "patchkin.desk" 605 437
def eW:Obj:=ty (cl (S "Desk") [(w "object")] [(r 502),(w "object")] 501 (S "Desk") true [] [] false none false) [none,none,(k (v "Desk" 659)),(k (v "Desk" 667)),(k (b "object.__new__")),(k (vl true))]
def eX:Obj:=fn "check_made" "Desk.check_made" (y 39 19) "patchkin.desk" 605 477
def eY:Obj:=fv "files" "Desk.files" (y 39 12)
def eZ:Obj:=fv "patches_of" "Desk.patches_of" (y 39 16)
def e0:Obj:=fv "check_held" "Desk.check_held" (y 39 20)
def e1:Obj:=fv "quarrels" "Desk.quarrels" (y 39 14)
noncomputable def e2:Obj:=fv "keep" "Desk.keep" (y 39 22)
def e3:Obj:=of "super" [(r 502),(r 502),(r 502)]
def e4:Obj:=fv "check_store" "Desk.check_store" (y 39 18)
def e5:Obj:=fv "row" "Desk.row" (y 39 13)
noncomputable def e6(P:Params):Obj:=dt [(d P "__module__" 666 (v "patchkin.desk" 605)),(d P "__qualname__" 668 (v "Desk" 667)),(d P "__firstlineno__" 670 (vi 217 669)),(d P "__init__" 677 (r 359)),(d P "begin" 685 (r 366)),(d P "stores" 692 (r 373)),(d P "patches" 699 (r 380)),(d P "has" 705 (r 385)),(d P "record" 711 (r 390)),(d P "cut" 717 (r 395)),(d P "back" 727 (r 402)),(d P "take" 733 (r 407)),(d P "drop" 743 (r 414)),(d P "leans" 749 (r 419)),(d P "told" 757 (r 426)),(d P "files" 765 (r 433)),(d P "row" 771 (r 438)),(d P "quarrels" 780 (r 445)),(d P "stay" 789 (r 452)),(d P "patches_of" 795 (r 457)),(d P "sight_of" 804 (r 464)),(d P "check_store" 812 (r 471)),(d P "check_made" 820 (r 478)),(d P "check_held" 829 (r 485)),(d P "check_new" 839 (r 492)),(d P "keep" 850 (r 499)),(d P "__static_attributes__" 854 (r 500))] 27
def e7:Obj:=fv "check_made" "Desk.check_made" (y 39 19)
def e8:Obj:=fv "stay" "Desk.stay" (y 39 15)
def e9:Obj:=fv "check_new" "Desk.check_new" (y 39 21)
def fa:Obj:=of "builtin_function_or_method" [(b "object.__init_subclass__"),(r 502)]
def fb:Obj:=fv "sight_of" "Desk.sight_of" (y 39 17)
def fc:Obj:=l3 [(219,4,358),(224,4,365),(230,4,372),(233,4,379),(236,4,384),(240,4,389),(250,4,394),(259,4,401),(265,4,406),(275,4,413),(283,4,418),(287,4,425),(290,4,432),(293,4,437),(296,4,444),(299,4,451),(302,4,456),(305,4,463),(308,4,470),(312,4,477),(316,4,484),(320,4,491),(326,4,498)]
def fe(P:Params):Obj:=dt ((d P "__name__" 165 (v "law_patchkin_k11_whole_there_and_back" 862))::hm P) 58
def ff:Obj:=fn "_law_seen" "_law_seen" (x 51) "law_patchkin_k11_whole_there_and_back" 862 574
def fg:Obj:=co "_law_deed" "_law_deed" 916 379 6 3 540 181 [541,0,0,0,542] 919
def fh:Obj:=fn "_law_name" "_law_name" (x 43) "law_patchkin_k11_whole_there_and_back" 862 526
def fi:Obj:=tp [(v "row" 938),(v "line" 939)]
def fj:Obj:=co "_law_draw" "_law_draw" 872 339 3 3 514 181 [515,0,516,517,518] 879
def fk:Obj:=tp [(v "texts" 905),(v "cell" 906),(v "at" 907),(v "line" 908),(v "more" 909),(v "way" 910),(v "out" 911),(v "turned" 912)]
def fm:Obj:=co "_law_change" "_law_change" 957 430 5 3 576 181 [577,0,0,0,578] 960
def fo:Obj:=co "_law_text" "_law_text" 896 355 1 3 528 181 [529,0,0,0,530] 899
def fp:Obj:=fn "_law_row_form" "_law_row_form" (x 49) "law_patchkin_k11_whole_there_and_back" 862 562
def fq:Obj:=tp [(v "cell" 885),(v "k" 886),(v "signs" 887),(v "size" 888),(v "base" 889),(v "far" 890),(v "found" 891),(v "j" 892)]
def fs:Obj:=co "_law_whole" "_law_whole" 928 410 1 3 550 181 [551,0,552,553,554] 932
def ft:Obj:=fn "_law_edit" "_law_edit" (x 45) "law_patchkin_k11_whole_there_and_back" 862 538
def fu:Obj:=fn "_law_cell_at" "_law_cell_at" (x 41) "law_patchkin_k11_whole_there_and_back" 862 512
def fw:Obj:=fn "law" "law" (x 53) "law_patchkin_k11_whole_there_and_back" 862 584
def fx:Obj:=co "_law_pairs_form" "_law_pairs_form" 943 421 1 3 564 181 [565,0,566,567,568] 948
def fy:Obj:=fn "_law_desk" "_law_desk" (x 47) "law_patchkin_k11_whole_there_and_back" 862 548
def fz:Obj:=tp [(v "script" 867),(v "k" 868)]
def fA:Obj:=co "_law_cell_at" "_law_cell_at" 864 335 2 3 507 181 [508,0,509,510,511] 869
def fB:Obj:=fn "_law_deed" "_law_deed" (x 46) "law_patchkin_k11_whole_there_and_back" 862 543
def fC:Obj:=fn "_law_draw" "_law_draw" (x 42) "law_patchkin_k11_whole_there_and_back" 862 519
def fD:Obj:=co "law" "law" 963 436 1 3 581 181 [582,0,0,0,583] 966
def fE:Obj:=tp [(v "found" 931)]
def fF:Obj:=tp [(v "cell" 875),(v "k" 876),(v "bound" 877),(v "stir" 878)]
def fG:Obj:=fn "_law_change" "_law_change" (x 52) "law_patchkin_k11_whole_there_and_back" 862 579
def fH:Obj:=co "_law_desk" "_law_desk" 922 398 4 3 545 181 [546,0,0,0,547] 925
def fI:Obj:=fn "_law_text" "_law_text" (x 44) "law_patchkin_k11_whole_there_and_back" 862 531
def fJ:Obj:=fn "_law_whole" "_law_whole" (x 48) "law_patchkin_k11_whole_there_and_back" 862 555
def fK:Obj:=co "_law_row_form" "_law_row_form" 935 412 1 3 557 181 [558,0,559,560,561] 940
def fL:Obj:=co "_law_edit" "_law_edit" 902 363 2 3 533 181 [534,0,535,536,537] 913
def fM:Obj:=fn "_law_pairs_form" "_law_pairs_form" (x 50) "law_patchkin_k11_whole_there_and_back" 862 569
def fN:Obj:=tp [(v "found" 946),(v "pair" 947)]
def fO:Obj:=co "_law_name" "_law_name" 882 343 2 3 521 181 [522,0,523,524,525] 893
def fP:Obj:=co "_law_seen" "_law_seen" 951 428 3 3 571 181 [572,0,0,0,573] 954
def fQ(P:Params):Obj:=dt ((d P "__name__" 165 (v "patchkin.desk" 605))::hk P) 44
def fR:Obj:=l3 [(1,0,20),(5,0,27),(13,0,32),(18,0,39),(23,0,46),(34,0,53),(36,0,66),(38,0,78),(40,0,90),(42,0,102),(44,0,114),(46,0,126),(48,0,138),(50,0,150),(53,0,162),(60,0,183),(68,0,202),(74,0,207),(79,0,214),(88,0,221),(94,0,226),(101,0,231),(104,0,238),(114,0,245),(120,0,250),(136,0,257),(141,0,262),(156,0,269),(181,0,318),(187,0,325),(193,0,332),(198,0,339),(209,0,344),(217,0,351)]
def fS:Obj:=fv "_law_cell_at" "_law_cell_at" (x 41)
def fU:Obj:=fv "_law_desk" "_law_desk" (x 47)
def fV:Obj:=fv "_law_row_form" "_law_row_form" (x 49)
def fW:Obj:=fv "_law_edit" "_law_edit" (x 45)
def fX:Obj:=fv "_law_name" "_law_name" (x 43)
def fY:Obj:=fv "_law_seen" "_law_seen" (x 51)
def fZ:Obj:=fv "_law_pairs_form" "_law_pairs_form" (x 50)
def f0:Obj:=l3 [(1,0,20),(5,0,27),(13,0,32),(18,0,39),(23,0,46),(34,0,53),(36,0,66),(38,0,78),(40,0,90),(42,0,102),(44,0,114),(46,0,126),(48,0,138),(50,0,150),(53,0,162),(60,0,183),(68,0,202),(74,0,207),(79,0,214),(88,0,221),(94,0,226),(101,0,231),(104,0,238),(114,0,245),(120,0,250),(136,0,257),(141,0,262),(156,0,269),(181,0,318),(187,0,325),(193,0,332),(198,0,339),(209,0,344),(217,0,351),(335,0,512),(339,0,519),(343,0,526),(355,0,531),(363,0,538),(379,0,543),(398,0,548),(410,0,555),(412,0,562),(421,0,569),(428,0,574),(430,0,579),(436,0,584)]
def f1:Obj:=fv "_law_change" "_law_change" (x 52)
def f2:Obj:=fv "_law_text" "_law_text" (x 44)
def f3:Obj:=fv "_law_whole" "_law_whole" (x 48)
def f4:Obj:=fv "_law_draw" "_law_draw" (x 42)
def f5:Obj:=fv "_law_deed" "_law_deed" (x 46)
def f6(P:Params):Obj:=dt ((d P "__name__" 165 (v "patchkin.errors" 236))::hc P) 20
def gb(P:Params):Obj:=dt ((d P "__name__" 165 (v "patchkin.order" 384))::hi P) 36
def ge(P:Params):Obj:=dt ((d P "__name__" 165 (v "patchkin.errors" 236))::hd P) 21
def gh(P:Params):Obj:=dt ((d P "__name__" 165 (v "patchkin.errors" 236))::ha P) 18
def gk(P:Params):Obj:=dt ((d P "__name__" 165 (v "patchkin.errors" 236))::g7 P) 15
def gn(P:Params):Obj:=dt ((d P "__name__" 165 (v "patchkin.desk" 605))::hl P) 45
def go(P:Params):Obj:=dt ((d P "__name__" 165 (v "patchkin.errors" 236))::he P) 22
def gr(P:Params):Obj:=dt ((d P "__name__" 165 (v "patchkin.errors" 236))::g9 P) 17
def gu(P:Params):Obj:=dt ((d P "__name__" 165 (v "patchkin.order" 384))::hg P) 24
def gw(P:Params):Obj:=dt ((d P "__name__" 165 (v "patchkin.order" 384))::hh P) 31
def gy(P:Params):Obj:=dt ((d P "__name__" 165 (v "patchkin.order" 384))::hf P) 23
def gA(P:Params):Obj:=dt ((d P "__name__" 165 (v "patchkin.errors" 236))::g8 P) 16
def gD(P:Params):Obj:=dt ((d P "__name__" 165 (v "patchkin.errors" 236))::hb P) 19
def gG(P:Params):Obj:=dt ((d P "__name__" 165 (v "patchkin.desk" 605))::hj P) 39
def gI(P:Params):BT:=n am (n aa (f (aC P)) (f ab)) (n aD (f ad) (f (a9 P)))
def gJ:BT:=n aw (n aa (f aa) (f ba)) (n aF (f aa) z)
def gK:BT:=n aH (n ab (f ac) (f a4)) (n ax (f a5) z)
def gL:BT:=n aa (n aI (f aJ) (f bb)) (n aK (f ac) (f bc))
def gM:BT:=n aa (f aa) z
def gN:BT:=n aa (f aa) (f aa)
def gO:BT:=n aa (f ab) z
def gP:BT:=n ab (f ab) (f ab)
def gQ:BT:=n aa (f aa) (f ab)
def gR:BT:=n ab (f ab) z
def gS:BT:=n aq (n aP (f aa) (f ab)) (n aa (f b5) (f b6))
def gT:BT:=n ab (f ac) z
def gU(P:Params):BT:=n aA (n ab (n aN (f bl) z) (f (a7 P))) (n aa (f aT) (f bf))
def gV(P:Params):BT:=n ak (n al (n ab (f (bi P)) z) (f ad)) (n ac (f (aO P)) (f ab))
def gW:BT:=n au (n av (n aa (f bo) z) (f aa)) (n ab (f aW) (f aa))
def gX(P:Params):BT:=n aa (n aa (n aQ (f bj) z) (f ac)) (n (aG P) (f aR) (f bh))
def gY:BT:=n aA (n ab (f aN) z) (n aa (f aT) z)
def gZ:BT:=n ab (n an (f aa) (f a3)) (n ao (f aa) z)
def g0:BT:=n au (n av (f aa) z) (n ab (f aW) z)
def g1:BT:=n ab (n ay (f aX) z) (n ac (f aY) z)
def g2:BT:=n aa (f ab) (f aa)
def g3(P:Params):BT:=n aa (n az (n (aL P) (f bk) z) (f aZ)) (n ag (n aS (f br) z) (f (bd P)))
def g4(P:Params):BT:=n aa (n aE (n ab (f (bn P)) z) (f ad)) (n ad (f (aV P)) (f ab))
def g5:BT:=n ab (n an gM (f a3)) (n ao (n aa (f bw) z) (f aa))
def g6:BT:=n ab (n ay (n aX (f bp) z) (f ac)) (n ac (f aY) (f bq))
end
end TW
namespace PySem.W.Fast
open PySem PySem.W L2 PK TW
noncomputable section
def tw2224373500433316222:Program:=PySem.Challenge.pw_patchkin_k11_whole_there_and_back
theorem te2224373500433316222:tw2224373500433316222=tw2224373500433316222:=rfl
def tw14890909096408534464:Params→BT:=fun P=>n (boot_o_0 P) (n (boot_o_1 P) (n (f6 P) (n (boot_o_7 P) (n aa (n az (f (aL P)) (f aZ)) (n ag (f aS) (f (bd P)))) (n ab (n ah (f aM) (f a6)) (n aa (f (a0 P)) (f be)))) (n aa (n aA (n ab (f aN) (f (a7 P))) (n aa (f aT) (f bf))) (n ai (n aj (f (aU P)) (f a8)) (n aB (f a1) z)))) (n (boot_o_5 P) (n (boot_o_9 P) (n ak (n al (f ab) (f ad)) (n ac (f (aO P)) (f ab))) (n aa (n aa (f ad) (f (a2 P))) (n (ty (cl (S "PatchError") [(w "ValueError")] [(r 57),(w "ValueError"),(w "Exception"),(w "BaseException"),(w "object")] 56 (S "PatchError") true [] [(r 70),(r 82),(r 94),(r 106),(r 118)] false none false) [(k (r 48)),none,(k (v "PatchError" 238)),(k (v "PatchError" 246)),(k (b "ValueError.__new__")),(k (vl true))]) (f ab) z))) (n ae (gI P) (n aa (n aE (f ab) (f ad)) (n ad (f (aV P)) z))))) (n (boot_o_2 P) (n (boot_o_4 P) (n (boot_o_8 P) (n ab (n an (f aa) (f a3)) (n ao (f aa) (f aa))) (n ap (n aq (f aP) (f aa)) (n (ar P) (f aa) (f bg)))) (n (l3 [(1,0,20),(5,0,27),(13,0,32),(18,0,39),(23,0,46),(34,0,53),(36,0,66),(38,0,78),(40,0,90),(42,0,102),(44,0,114)]) (n au (n av (f aa) (f aa)) (n ab (f aW) (f aa))) gJ)) (n (boot_o_6 P) (n (boot_o_10 P) (n aa (n aa (f aQ) (f ac)) (n (aG P) (f aR) (f bh))) gK) (n af gL (n ab (n ay (f aX) (f ac)) (n ac (f aY) z)))))
theorem te14890909096408534464:tw14890909096408534464=tw14890909096408534464:=rfl
noncomputable def tw12380379100622284995:Params→BT:=fun P=>n (boot_o_0 P) (n (boot_o_1 P) (n (fQ P) (n (boot_o_7 P) (n aa (n az (n (aL P) (n bk (f aa) (f d9)) (n bN (f c7) z)) (n aZ (n (bO P) (f cI) (f aa)) (n aa (f ea) z))) (n ag (n aS (n br (f aa) (f aa)) (n bP (f ab) z)) (n (bd P) (n bA (f c8) z) (n cg (f aa) z)))) (n ab (n ah (n aM (n (bs P) (f ch) (f aa)) gM) (n a6 gN (n bQ (f dA) z))) (n aa (n (a0 P) (n bB (f ab) (f dB)) (n bR (f dC) z)) (n be (n ci (f c9) z) gO)))) (n aa (n aA (n ab (n aN (n bl (f aa) (f ab)) (n bS (f aa) z)) (n (a7 P) (n bT (f cJ) (f dD)) (n bU (f dE) z))) (n aa (n aT (n (bC P) (f da) (f aa)) (n bV (f db) z)) (n bf (n ac (f (cK P)) z) (n aa (f eb) z)))) (n ai (n aj (n (aU P) (n bt (f aa) (f dF)) (n bW (f dG) z)) (n a8 (n bD (f aa) z) (n cj (f aa) z))) (n aB (n a1 (n bE (f cL) (f aa)) (n aa (f ac) z)) (n (bm P) (n bX (f dc) z) (n ck (f dH) z)))))) (n (boot_o_5 P) (n (boot_o_9 P) (n ak (n al (n ab (n (bi P) (f cm) (f dI)) (n (bY P) (f ab) z)) (n ad (n bZ (f df) (f ec)) (n cn (f aa) z))) (n ac (n (aO P) (n ad (f cM) (f dJ)) gM) (n ab (n b0 (f cN) z) (n ab (f dK) z)))) (n aa (n aa (n ad (n ab (f ac) (f ed)) (n cp (f dg) z)) (n (a2 P) (n bF (f cO) (f dL)) gO)) (n bu (n ab (n (bv P) (f aa) (f ab)) (n ab (f dh) z)) (n ad gM (n cP (f aa) z))))) (n ae (n am (n aa (n (aC P) (n ad (f cQ) (f dM)) (n cq (f di) z)) (n ab gP (n ab (f ee) z))) (n aD (n ad (n ab (f cR) (f ef)) (n cr (f aa) z)) (n (a9 P) (n aa (f cS) z) (n cs (f dN) z)))) (n aa (n aE (n ab (n (bn P) (f dj) (f ab)) (n ab (f dk) z)) (n ad (n bG (f cT) z) (n cU (f dO) z))) (n ad (n (aV P) (n aa (f aa) (f dP)) (n b1 (f aa) z)) (n ab (n ct (f dQ) z) (n ab (f aa) z))))))) (n (boot_o_2 P) (n (boot_o_4 P) (n (boot_o_8 P) (n ab (n an (n aa (n aa (f cV) (f dR)) (n b2 (f aa) z)) (n a3 gQ (n ab (f eg) z))) (n ao (n aa (n bw (f ab) (f eh)) (n b3 (f dl) z)) (n aa (n b4 (f cW) z) gO))) (n ap (n aq (n aP gQ gR) (n aa (n b5 (f dm) (f ei)) (n b6 (f aa) z))) (n (ar P) (n aa (n aa (f cX) (f aa)) (n aa (f dn) z)) (n bg (n cu (f dp) z) (n ab (f dS) z))))) (n fR (n au (n av (n aa (n bo (f ab) (f ej)) (n b7 (f dT) z)) (n aa gN gM)) (n ab (n aW (n aa (f cY) (f ab)) (n aa (f dq) z)) (n aa (n (cv P) (f cZ) z) (n c0 (f dU) z)))) (n aw (n aa (n aa (n aa (f dr) (f aa)) (n aa (f ds) z)) (n ba (n (bH P) (f ab) z) (n aa (f ek) z))) (n aF (n aa (n bI (f c1) (f el)) (n cw (f (dt [(d P "__module__" 666 (v "patchkin.desk" 605)),(d P "__qualname__" 668 (v "Desk" 667)),(d P "__firstlineno__" 670 (vi 217 669)),(d P "__init__" 677 (r 359)),(d P "begin" 685 (r 366)),(d P "stores" 692 (r 373)),(d P "patches" 699 (r 380)),(d P "has" 705 (r 385)),(d P "record" 711 (r 390)),(d P "cut" 717 (r 395)),(d P "back" 727 (r 402)),(d P "take" 733 (r 407)),(d P "drop" 743 (r 414)),(d P "leans" 749 (r 419))] 14)) z)) (n aa gM (n aa (f dV) z)))))) (n (boot_o_6 P) (n (boot_o_10 P) (n aa (n aa (n aQ (n bj (f cx) (f aa)) (n b8 (f du) z)) (n ac (n b9 (f c2) (f dW)) (n ca (f ab) z))) (n (aG P) (n aR (n ac (f aa) (f dX)) (n ab (f dY) z)) (n bh (n aa (f c3) z) (n cy (f aa) z)))) (n aH (n ab (n ac (n bx (f (dv P)) (f dZ)) (n cb (f aa) z)) (n a4 (n bJ (f c4) z) (n ab (f d0) z))) (n ax (n a5 (n bz (f dw) (f d1)) (n cc (f aa) z)) (n ac gR (n cz (f em) z))))) (n af (n aa (n aI (n aJ (n ac (f cA) (f d2)) (n cB (f dx) z)) (n bb (n bK (f c5) (f d3)) (n cC (f d4) z))) (n aK (n ac (n bL (f aa) (f d5)) (n cd (f ab) z)) (n bc (n cD (f c6) z) (n cE (f aa) z)))) (n ab (n ay (n aX (n bp (f dy) (f d6)) (n cF (f aa) z)) (n ac (n bM (f aa) z) (n cG (f d7) z))) (n ac (n aY (n ac (f ab) (f d8)) (n ce (f (l3 [(219,4,358),(224,4,365),(230,4,372),(233,4,379),(236,4,384),(240,4,389),(250,4,394),(259,4,401),(265,4,406),(275,4,413),(283,4,418),(287,4,425)])) z)) (n bq (n cf (f dz) z) (n cH (f ab) z)))))))
theorem te12380379100622284995:tw12380379100622284995=tw12380379100622284995:=rfl
def tw6790194273905044293:Params→BT:=fun P=>n (boot_o_0 P) (n (boot_o_1 P) (n (boot_o_3 P) (f (boot_o_7 P)) (f aa)) (n (boot_o_5 P) (f (boot_o_9 P)) (f ae))) (n (boot_o_2 P) (n (boot_o_4 P) (f (boot_o_8 P)) (f ab)) (n (boot_o_6 P) (f (boot_o_10 P)) (f af)))
theorem te6790194273905044293:tw6790194273905044293=tw6790194273905044293:=rfl
def tw4017511680109102694:Params→BT:=fun P=>n (boot_o_0 P) (n (boot_o_1 P) (n (gb P) (n (boot_o_7 P) (n aa (n az (n (aL P) (n bk (f aa) z) (f bN)) (n aZ (f (bO P)) (f aa))) (n ag (n aS (f br) (f bP)) (n (bd P) (f bA) (f cg)))) (n ab (n ah (n aM (n (bs P) (f ch) z) (f aa)) (n a6 (f aa) (f bQ))) (n aa (n (a0 P) (f bB) (f bR)) (n be (f ci) (f aa))))) (n aa (n aA (n ab (n aN (n bl (f aa) z) (f bS)) (n (a7 P) (f bT) (f bU))) (n aa (n aT (f (bC P)) (f bV)) (n bf (f ac) (f aa)))) (n ai (n aj (n (aU P) (f bt) (f bW)) (n a8 (f bD) (f cj))) (n aB (n a1 (f bE) (f aa)) (n (bm P) (f bX) (f ck)))))) (n (boot_o_5 P) (n (boot_o_9 P) (n ak (n al (n ab (n (bi P) (f cm) z) (f (bY P))) (n ad (f bZ) (f cn))) (n ac (n (aO P) (f ad) (f aa)) (n ab (f b0) (f ab)))) (n aa (n aa (n ad (f ab) (f cp)) (n (a2 P) (f bF) (f aa))) (n bu (n ab (f (bv P)) (f ab)) (n ad (f aa) (f cP))))) (n ae (n am (n aa (n (aC P) (n ad (f cQ) z) (f cq)) gP) (n aD (n ad (f ab) (f cr)) (n (a9 P) (f aa) (f cs)))) (n aa (n aE (n ab (f (bn P)) (f ab)) (n ad (f bG) (f cU))) (n ad (n (aV P) (f aa) (f b1)) (n ab (f ct) (f ab))))))) (n (boot_o_2 P) (n (boot_o_4 P) (n (boot_o_8 P) (n ab (n an (n aa (n aa (f cV) z) (f b2)) (n a3 (f aa) (f ab))) (n ao (n aa (f bw) (f b3)) (n aa (f b4) (f aa)))) (n ap gS (n (ar P) gN (n bg (f cu) (f ab))))) (n (l3 [(1,0,20),(5,0,27),(13,0,32),(18,0,39),(23,0,46),(34,0,53),(36,0,66),(38,0,78),(40,0,90),(42,0,102),(44,0,114),(46,0,126),(48,0,138),(50,0,150),(53,0,162),(60,0,183),(68,0,202),(74,0,207),(79,0,214),(88,0,221),(94,0,226),(101,0,231),(104,0,238),(114,0,245),(120,0,250),(136,0,257),(141,0,262)]) (n au (n av (n aa (n bo (f ab) z) (f b7)) gN) (n ab (n aW (f aa) (f aa)) (n aa (f (cv P)) (f c0)))) (n aw (n aa gN (n ba (f (bH P)) (f aa))) (n aF (n aa (f bI) (f cw)) gN)))) (n (boot_o_6 P) (n (boot_o_10 P) (n aa (n aa (n aQ (n bj (f cx) z) (f b8)) (n ac (f b9) (f ca))) (n (aG P) (n aR (f ac) (f ab)) (n bh (f aa) (f cy)))) (n aH (n ab (n ac (f bx) (f cb)) (n a4 (f bJ) (f ab))) (n ax (n a5 (f bz) (f cc)) (n ac (f ab) (f cz))))) (n af (n aa (n aI (n aJ (n ac (f cA) z) (f cB)) (n bb (f bK) (f cC))) (n aK (n ac (f bL) (f cd)) (n bc (f cD) (f cE)))) (n ab (n ay (n aX (f bp) (f cF)) (n ac (f bM) (f cG))) (n ac (n aY (f ac) (f ce)) (n bq (f cf) (f cH)))))))
theorem te4017511680109102694:tw4017511680109102694=tw4017511680109102694:=rfl
def tw18446081625773873896:Params→BT:=fun P=>n (boot_o_0 P) (n (boot_o_1 P) (n (fQ P) (n (boot_o_7 P) (n aa (n az (n (aL P) (n bk (f aa) z) (n bN (f c7) z)) (n aZ (n (bO P) (f cI) z) (f aa))) (n ag (n aS (n br (f aa) z) (n bP (f ab) z)) (n (bd P) (n bA (f c8) z) (f cg)))) (n ab (n ah (n aM (n (bs P) (f ch) z) gM) (n a6 gM (f bQ))) (n aa (n (a0 P) (n bB (f ab) z) (n bR (f dC) z)) (n be (n ci (f c9) z) (f aa))))) (n aa (n aA (n ab (n aN (n bl (f aa) z) (n bS (f aa) z)) (n (a7 P) (n bT (f cJ) z) (f bU))) (n aa (n aT (n (bC P) (f da) z) (n bV (f db) z)) (n bf (n ac (f (cK P)) z) (f aa)))) (n ai (n aj (n (aU P) (n bt (f aa) z) (n bW (f dG) z)) (n a8 (n bD (f aa) z) (f cj))) (n aB (n a1 (n bE (f cL) z) (f aa)) (n (bm P) (n bX (f dc) z) (f ck)))))) (n (boot_o_5 P) (n (boot_o_9 P) (n ak (n al (n ab (n (bi P) (f cm) z) (n (bY P) (f ab) z)) (n ad (n bZ (f df) z) (f cn))) (n ac (n (aO P) (n ad (f cM) z) gM) (n ab (n b0 (f cN) z) (f ab)))) (n aa (n aa (n ad gT (n cp (f dg) z)) (n (a2 P) (n bF (f cO) z) (f aa))) (n bu (n ab (n (bv P) (f aa) z) (n ab (f dh) z)) (n ad gM (f cP))))) (n ae (n am (n aa (n (aC P) (n ad (f cQ) z) (n cq (f di) z)) (n ab gR (f ab))) (n aD (n ad (n ab (f cR) z) (n cr (f aa) z)) (n (a9 P) (n aa (f cS) z) (f cs)))) (n aa (n aE (n ab (n (bn P) (f dj) z) (n ab (f dk) z)) (n ad (n bG (f cT) z) (f cU))) (n ad (n (aV P) gM (f b1)) (n ab (n ct (f dQ) z) (f ab))))))) (n (boot_o_2 P) (n (boot_o_4 P) (n (boot_o_8 P) (n ab (n an (n aa (n aa (f cV) z) (n b2 (f aa) z)) (n a3 gM (f ab))) (n ao (n aa (n bw (f ab) z) (n b3 (f dl) z)) (n aa (n b4 (f cW) z) (f aa)))) (n ap (n aq (n aP gM gR) (n aa (n b5 (f dm) z) (f b6))) (n (ar P) (n aa (n aa (f cX) z) (n aa (f dn) z)) (n bg (n cu (f dp) z) (f ab))))) (n (l3 [(1,0,20),(5,0,27),(13,0,32),(18,0,39),(23,0,46),(34,0,53),(36,0,66),(38,0,78),(40,0,90),(42,0,102),(44,0,114),(46,0,126),(48,0,138),(50,0,150),(53,0,162),(60,0,183),(68,0,202),(74,0,207),(79,0,214),(88,0,221),(94,0,226),(101,0,231),(104,0,238),(114,0,245),(120,0,250),(136,0,257),(141,0,262),(156,0,269),(181,0,318),(187,0,325),(193,0,332),(198,0,339),(209,0,344)]) (n au (n av (n aa (n bo (f ab) z) (n b7 (f dT) z)) (n aa gM (f aa))) (n ab (n aW (n aa (f cY) z) (n aa (f dq) z)) (n aa (n (cv P) (f cZ) z) (f c0)))) (n aw (n aa (n aa (n aa (f dr) z) (n aa (f ds) z)) (n ba (n (bH P) (f ab) z) (f aa))) (n aF (n aa (n bI (f c1) z) (f cw)) (n aa gM (f aa)))))) (n (boot_o_6 P) (n (boot_o_10 P) (n aa (n aa (n aQ (n bj (f cx) z) (n b8 (f du) z)) (n ac (n b9 (f c2) z) (f ca))) (n (aG P) (n aR (n ac (f aa) z) (n ab (f dY) z)) (n bh (n aa (f c3) z) (f cy)))) (n aH (n ab (n ac (n bx (f (dv P)) z) (n cb (f aa) z)) (n a4 (n bJ (f c4) z) (f ab))) (n ax (n a5 (n bz (f dw) z) (f cc)) (n ac gR (f cz))))) (n af (n aa (n aI (n aJ (n ac (f cA) z) (n cB (f dx) z)) (n bb (n bK (f c5) z) (f cC))) (n aK (n ac (n bL (f aa) z) (n cd (f ab) z)) (n bc (n cD (f c6) z) (f cE)))) (n ab (n ay (n aX (n bp (f dy) z) (n cF (f aa) z)) (n ac (n bM (f aa) z) (f cG))) (n ac (n aY (n ac (f ab) z) (f ce)) (n bq (n cf (f dz) z) (f cH)))))))
theorem te18446081625773873896:tw18446081625773873896=tw18446081625773873896:=rfl
def tw4424506184731342728:Params→BT:=fun P=>n (boot_o_0 P) (n (boot_o_1 P) (n (ge P) (n (boot_o_7 P) (n aa (n az (n (aL P) (f bk) z) (f aZ)) (n ag (f aS) (f (bd P)))) (n ab (n ah (f aM) (f a6)) (n aa (f (a0 P)) (f be)))) (n aa (gU P) (n ai (n aj (f (aU P)) (f a8)) (n aB (f a1) (f (bm P)))))) (n (boot_o_5 P) (n (boot_o_9 P) (gV P) (n aa (n aa (f ad) (f (a2 P))) (n (ty (cl (S "PatchError") [(w "ValueError")] [(r 57),(w "ValueError"),(w "Exception"),(w "BaseException"),(w "object")] 56 (S "PatchError") true [] [(r 70),(r 82),(r 94),(r 106),(r 118),(r 130)] false none false) [(k (r 48)),none,(k (v "PatchError" 238)),(k (v "PatchError" 246)),(k (b "ValueError.__new__")),(k (vl true))]) (f ab) (f ad)))) (n ae (gI P) (n aa (n aE (f ab) (f ad)) (n ad (f (aV P)) (f ab)))))) (n (boot_o_2 P) (n (boot_o_4 P) (n (boot_o_8 P) (n ab (n an gM (f a3)) (n ao (f aa) (f aa))) (n ap (n aq (f aP) (f aa)) (n (ar P) (f aa) (f bg)))) (n (l3 [(1,0,20),(5,0,27),(13,0,32),(18,0,39),(23,0,46),(34,0,53),(36,0,66),(38,0,78),(40,0,90),(42,0,102),(44,0,114),(46,0,126)]) gW (n aw (n aa (f aa) (f ba)) (n aF (f aa) (f aa))))) (n (boot_o_6 P) (n (boot_o_10 P) (gX P) (n aH (n ab (f ac) (f a4)) (n ax (f a5) (f ac)))) (n af gL (n ab (n ay (f aX) (f ac)) (n ac (f aY) (f bq))))))
theorem te4424506184731342728:tw4424506184731342728=tw4424506184731342728:=rfl
def tw8397722865830548491:Params→BT:=fun P=>n (boot_o_0 P) (n (boot_o_1 P) (n (gh P) (n (boot_o_7 P) (n aa (n az (f (aL P)) (f aZ)) (n ag (f aS) z)) (n ab (n ah (f aM) z) (n aa (f (a0 P)) z))) (n aa gY (n ai (n aj (f (aU P)) z) (n aB (f a1) z)))) (n (boot_o_5 P) (n (boot_o_9 P) (n ak (n al (f ab) z) (n ac (f (aO P)) z)) (n aa (n aa (f ad) z) (n (ty (cl (S "PatchError") [(w "ValueError")] [(r 57),(w "ValueError"),(w "Exception"),(w "BaseException"),(w "object")] 56 (S "PatchError") true [] [(r 70),(r 82),(r 94)] false none false) [(k (r 48)),none,(k (v "PatchError" 238)),(k (v "PatchError" 246)),(k (b "ValueError.__new__")),(k (vl true))]) (f ab) z))) (n ae (n am (n aa (f (aC P)) z) (n aD (f ad) z)) (n aa (n aE (f ab) z) (n ad (f (aV P)) z))))) (n (boot_o_2 P) (n (boot_o_4 P) (n (boot_o_8 P) gZ (n ap (n aq (f aP) z) (n (ar P) (f aa) z))) (n (l3 [(1,0,20),(5,0,27),(13,0,32),(18,0,39),(23,0,46),(34,0,53),(36,0,66),(38,0,78),(40,0,90)]) g0 (n aw gM (n aF (f aa) z)))) (n (boot_o_6 P) (n (boot_o_10 P) (n aa (n aa (f aQ) z) (n (aG P) (f aR) z)) (n aH gT (n ax (f a5) z))) (n af (n aa (n aI (f aJ) z) (n aK (f ac) z)) g1)))
theorem te8397722865830548491:tw8397722865830548491=tw8397722865830548491:=rfl
def tw17487599021964700619:Params→BT:=fun P=>n (boot_o_0 P) (n (boot_o_1 P) (n (gk P) (n (boot_o_7 P) (n aa (f az) (f ag)) (n ab (f ah) (f aa))) (n aa (n aA (f ab) (f aa)) (n ai (f aj) (f aB)))) (n (boot_o_5 P) (n (boot_o_9 P) (n ak (f al) (f ac)) (n aa (f aa) (f (ty (cl (S "PatchError") [(w "ValueError")] [(r 57),(w "ValueError"),(w "Exception"),(w "BaseException"),(w "object")] 56 (S "PatchError") true [] [] false none false) [(k (r 48)),none,(k (v "PatchError" 238)),(k (v "PatchError" 246)),(k (b "ValueError.__new__")),(k (vl true))])))) (n ae (n am (f aa) (f aD)) (n aa (f aE) z)))) (n (boot_o_2 P) (n (boot_o_4 P) (n (boot_o_8 P) (n ab (f an) (f ao)) (n ap (f aq) (f (ar P)))) (n (l3 [(1,0,20),(5,0,27),(13,0,32),(18,0,39),(23,0,46),(34,0,53)]) (n au (f av) (f ab)) (n aw (f aa) (f aF)))) (n (boot_o_6 P) (n (boot_o_10 P) (n aa (f aa) (f (aG P))) (n aH (f ab) (f ax))) (n af (n aa (f aI) (f aK)) (n ab (f ay) z))))
theorem te17487599021964700619:tw17487599021964700619=tw17487599021964700619:=rfl
def tw16118081721796175532:Params→BT:=fun P=>n (boot_o_0 P) (n (boot_o_1 P) (n (gn P) (n (boot_o_7 P) (n aa (n az (n (aL P) (n bk (f aa) (f d9)) (n bN (f c7) (f ab))) (n aZ (n (bO P) (f cI) (f aa)) (n aa (f ea) (f aa)))) (n ag (n aS (n br (f aa) (f aa)) (n bP (f ab) (f en))) (n (bd P) (n bA (f c8) (f eY)) (n cg (f aa) (f eo))))) (n ab (n ah (n aM (n (bs P) (f ch) (f aa)) (n aa (f aa) (f eZ))) (n a6 gN (n bQ (f dA) (f ab)))) (n aa (n (a0 P) (n bB (f ab) (f dB)) (n bR (f dC) (f ep))) (n be (n ci (f c9) (f aa)) (n aa (f ab) (f eq)))))) (n aa (n aA (n ab (n aN (n bl (f aa) (f ab)) (n bS (f aa) (f er))) (n (a7 P) (n bT (f cJ) (f dD)) (n bU (f dE) (f e0)))) (n aa (n aT (n (bC P) (f da) (f aa)) (n bV (f db) (f es))) (n bf (n ac (f (cK P)) (f ab)) (n aa (f eb) (f et))))) (n ai (n aj (n (aU P) (n bt (f aa) (f dF)) (n bW (f dG) (f ab))) (n a8 (n bD (f aa) (f aa)) (n cj (f aa) (f eu)))) (n aB (n a1 (n bE (f cL) (f aa)) (n aa (f ac) (f aa))) (n (bm P) (n bX (f dc) (f e1)) (n ck (f dH) z)))))) (n (boot_o_5 P) (n (boot_o_9 P) (n ak (n al (n ab (n (bi P) (f cm) (f dI)) (n (bY P) (f ab) (f aa))) (n ad (n bZ (f df) (f ec)) (n cn (f aa) (f ev)))) (n ac (n (aO P) (n ad (f cM) (f dJ)) gN) (n ab (n b0 (f cN) (f ew)) (n ab (f dK) (f e2))))) (n aa (n aa (n ad (n ab (f ac) (f ed)) (n cp (f dg) (f ex))) (n (a2 P) (n bF (f cO) (f dL)) g2)) (n bu (n ab (n (bv P) (f aa) (f ab)) (n ab (f dh) (f ab))) (n ad (n aa (f aa) (f ey)) (n cP (f aa) (f e3)))))) (n ae (n am (n aa (n (aC P) (n ad (f cQ) (f dM)) (n cq (f di) (f aa))) (n ab gP (n ab (f ee) (f ez)))) (n aD (n ad (n ab (f cR) (f ef)) (n cr (f aa) (f e4))) (n (a9 P) (n aa (f cS) (f eA)) (n cs (f dN) (f (eB P)))))) (n aa (n aE (n ab (n (bn P) (f dj) (f ab)) (n ab (f dk) (f aa))) (n ad (n bG (f cT) (f eC)) (n cU (f dO) (f aa)))) (n ad (n (aV P) (n aa (f aa) (f dP)) (n b1 (f aa) (f eD))) (n ab (n ct (f dQ) (f eE)) (n ab (f aa) z))))))) (n (boot_o_2 P) (n (boot_o_4 P) (n (boot_o_8 P) (n ab (n an (n aa (n aa (f cV) (f dR)) (n b2 (f aa) (f eF))) (n a3 gQ (n ab (f eg) (f ab)))) (n ao (n aa (n bw (f ab) (f eh)) (n b3 (f dl) (f eG))) (n aa (n b4 (f cW) (f eH)) g2))) (n ap (n aq (n aP gQ (n ab (f ab) (f eI))) (n aa (n b5 (f dm) (f ei)) (n b6 (f aa) (f eJ)))) (n (ar P) (n aa (n aa (f cX) (f aa)) (n aa (f dn) (f aa))) (n bg (n cu (f dp) (f ab)) (n ab (f dS) (f eK)))))) (n fR (n au (n av (n aa (n bo (f ab) (f ej)) (n b7 (f dT) (f eL))) (n aa gN (n aa (f aa) (f eM)))) (n ab (n aW (n aa (f cY) (f ab)) (n aa (f dq) (f aa))) (n aa (n (cv P) (f cZ) (f e5)) (n c0 (f dU) (f eN))))) (n aw (n aa (n aa (n aa (f dr) (f aa)) (n aa (f ds) (f eO))) (n ba (n (bH P) (f ab) (f ab)) (n aa (f ek) (f eP)))) (n aF (n aa (n bI (f c1) (f el)) (n cw (f (e6 P)) (f e7))) (n aa (n aa (f aa) (f eQ)) (n aa (f dV) z)))))) (n (boot_o_6 P) (n (boot_o_10 P) (n aa (n aa (n aQ (n bj (f cx) (f aa)) (n b8 (f du) (f e8))) (n ac (n b9 (f c2) (f dW)) (n ca (f ab) (f aa)))) (n (aG P) (n aR (n ac (f aa) (f dX)) (n ab (f dY) (f ab))) (n bh (n aa (f c3) (f aa)) (n cy (f aa) (f eR))))) (n aH (n ab (n ac (n bx (f (dv P)) (f dZ)) (n cb (f aa) (f aa))) (n a4 (n bJ (f c4) (f eS)) (n ab (f d0) (f e9)))) (n ax (n a5 (n bz (f dw) (f d1)) (n cc (f aa) (f eT))) (n ac (n ab (f ab) (f aa)) (n cz (f em) (f fa)))))) (n af (n aa (n aI (n aJ (n ac (f cA) (f d2)) (n cB (f dx) (f ab))) (n bb (n bK (f c5) (f d3)) (n cC (f d4) (f aa)))) (n aK (n ac (n bL (f aa) (f d5)) (n cd (f ab) (f eU))) (n bc (n cD (f c6) (f eV)) (n cE (f aa) (f eW))))) (n ab (n ay (n aX (n bp (f dy) (f d6)) (n cF (f aa) (f fb))) (n ac (n bM (f aa) (f aa)) (n cG (f d7) (f ab)))) (n ac (n aY (n ac (f ab) (f d8)) (n ce (f fc) (f eX))) (n bq (n cf (f dz) (f aa)) (n cH (f ab) z)))))))
theorem te16118081721796175532:tw16118081721796175532=tw16118081721796175532:=rfl
def tw10688781892294929805:Params→BT:=fun P=>n (boot_o_0 P) (n (boot_o_1 P) (n (go P) (n (boot_o_7 P) (g3 P) (n ab (n ah (n aM (f (bs P)) z) (f a6)) (n aa (f (a0 P)) (f be)))) (n aa (gU P) (n ai (n aj (n (aU P) (f bt) z) (f a8)) (n aB (f a1) (f (bm P)))))) (n (boot_o_5 P) (n (boot_o_9 P) (gV P) (n aa (n aa (n ad (f ab) z) (f (a2 P))) (n (ty (cl (S "PatchError") [(w "ValueError")] [(r 57),(w "ValueError"),(w "Exception"),(w "BaseException"),(w "object")] 56 (S "PatchError") true [] [(r 70),(r 82),(r 94),(r 106),(r 118),(r 130),(r 142)] false none false) [(k (r 48)),none,(k (v "PatchError" 238)),(k (v "PatchError" 246)),(k (b "ValueError.__new__")),(k (vl true))]) (f ab) (f ad)))) (n ae (n am (n aa (n (aC P) (f ad) z) (f ab)) (n aD (f ad) (f (a9 P)))) (g4 P)))) (n (boot_o_2 P) (n (boot_o_4 P) (n (boot_o_8 P) g5 (n ap (n aq (n aP (f aa) z) (f aa)) (n (ar P) (f aa) (f bg)))) (n (l3 [(1,0,20),(5,0,27),(13,0,32),(18,0,39),(23,0,46),(34,0,53),(36,0,66),(38,0,78),(40,0,90),(42,0,102),(44,0,114),(46,0,126),(48,0,138)]) gW (n aw (n aa gM (f ba)) (n aF (f aa) (f aa))))) (n (boot_o_6 P) (n (boot_o_10 P) (gX P) (n aH (n ab (n ac (f bx) z) (f a4)) (n ax (f a5) (f ac)))) (n af (n aa (n aI (n aJ (f ac) z) (f bb)) (n aK (f ac) (f bc))) g6)))
theorem te10688781892294929805:tw10688781892294929805=tw10688781892294929805:=rfl
def tw5772245230821458893:Params→BT:=fun P=>n (boot_o_0 P) (n (boot_o_1 P) (n (gr P) (n (boot_o_7 P) (n aa (n az (f (aL P)) z) (n ag (f aS) z)) (n ab (n ah (f aM) z) (f aa))) (n aa gY (n ai (n aj (f (aU P)) z) (f aB)))) (n (boot_o_5 P) (n (boot_o_9 P) (n ak (n al (f ab) z) (n ac (f (aO P)) z)) (n aa (n aa (f ad) z) (f (ty (cl (S "PatchError") [(w "ValueError")] [(r 57),(w "ValueError"),(w "Exception"),(w "BaseException"),(w "object")] 56 (S "PatchError") true [] [(r 70),(r 82)] false none false) [(k (r 48)),none,(k (v "PatchError" 238)),(k (v "PatchError" 246)),(k (b "ValueError.__new__")),(k (vl true))])))) (n ae (n am (n aa (f (aC P)) z) (f aD)) (n aa (n aE (f ab) z) (f ad))))) (n (boot_o_2 P) (n (boot_o_4 P) (n (boot_o_8 P) (n ab (n an (f aa) z) (n ao (f aa) z)) (n ap (n aq (f aP) z) (f (ar P)))) (n (l3 [(1,0,20),(5,0,27),(13,0,32),(18,0,39),(23,0,46),(34,0,53),(36,0,66),(38,0,78)]) g0 (n aw gM (f aF)))) (n (boot_o_6 P) (n (boot_o_10 P) (n aa (n aa (f aQ) z) (n (aG P) (f aR) z)) (n aH gT (f ax))) (n af (n aa (n aI (f aJ) z) (f aK)) (n ab (n ay (f aX) z) (f ac)))))
theorem te5772245230821458893:tw5772245230821458893=tw5772245230821458893:=rfl
def tw13918173170941494158:Params→BT:=fun P=>n (boot_o_0 P) (n (boot_o_1 P) (n (gu P) (n (boot_o_7 P) (n aa (n az (n (aL P) (f bk) z) (n aZ (f (bO P)) z)) (n ag (n aS (f br) z) (n (bd P) (f bA) z))) (n ab (n ah (n aM (f (bs P)) z) (n a6 (f aa) z)) (n aa (n (a0 P) (f bB) z) (f be)))) (n aa (n aA (n ab (n aN (f bl) z) (n (a7 P) (f bT) z)) (n aa (n aT (f (bC P)) z) (f bf))) (n ai (n aj (n (aU P) (f bt) z) (n a8 (f bD) z)) (n aB (n a1 (f bE) z) (f (bm P)))))) (n (boot_o_5 P) (n (boot_o_9 P) (n ak (n al (n ab (f (bi P)) z) (n ad (f bZ) z)) (n ac (n (aO P) (f ad) z) (n ab (f b0) z))) (n aa (n aa (n ad (f ab) z) (n (a2 P) (f bF) z)) (n bu (n ab (f (bv P)) z) (f ad)))) (n ae (n am (n aa (n (aC P) (f ad) z) gR) (n aD (n ad (f ab) z) (f (a9 P)))) (n aa (n aE (n ab (f (bn P)) z) (n ad (f bG) z)) (n ad (n (aV P) (f aa) z) (f ab)))))) (n (boot_o_2 P) (n (boot_o_4 P) (n (boot_o_8 P) (n ab (n an gM (n a3 (f aa) z)) (n ao (n aa (f bw) z) (n aa (f b4) z))) (n ap (n aq (n aP (f aa) z) (n aa (f b5) z)) (n (ar P) gM (f bg)))) (n (l3 [(1,0,20),(5,0,27),(13,0,32),(18,0,39),(23,0,46),(34,0,53),(36,0,66),(38,0,78),(40,0,90),(42,0,102),(44,0,114),(46,0,126),(48,0,138),(50,0,150),(53,0,162)]) (n au (n av (n aa (f bo) z) gM) (n ab (n aW (f aa) z) (f aa))) (n aw (n aa gM (n ba (f (bH P)) z)) (n aF (n aa (f bI) z) (f aa))))) (n (boot_o_6 P) (n (boot_o_10 P) (n aa (n aa (n aQ (f bj) z) (n ac (f b9) z)) (n (aG P) (n aR (f ac) z) (f bh))) (n aH (n ab (n ac (f bx) z) (n a4 (f bJ) z)) (n ax (n a5 (f bz) z) (f ac)))) (n af (n aa (n aI (n aJ (f ac) z) (n bb (f bK) z)) (n aK (n ac (f bL) z) (f bc))) (n ab (n ay (n aX (f bp) z) (n ac (f bM) z)) (n ac (n aY (f ac) z) (f bq))))))
theorem te13918173170941494158:tw13918173170941494158=tw13918173170941494158:=rfl
def tw14110608477494155056:Params→BT:=fun P=>n (boot_o_0 P) (n (boot_o_1 P) (n (gw P) (n (boot_o_7 P) (n aa (n az (n (aL P) (f bk) (f bN)) (n aZ (f (bO P)) (f aa))) (n ag (n aS (f br) (f bP)) (n (bd P) (f bA) z))) (n ab (n ah (n aM (f (bs P)) (f aa)) (n a6 (f aa) (f bQ))) (n aa (n (a0 P) (f bB) (f bR)) (n be (f ci) z)))) (n aa (n aA (n ab (n aN (f bl) (f bS)) (n (a7 P) (f bT) (f bU))) (n aa (n aT (f (bC P)) (f bV)) (n bf (f ac) z))) (n ai (n aj (n (aU P) (f bt) (f bW)) (n a8 (f bD) z)) (n aB (n a1 (f bE) (f aa)) (n (bm P) (f bX) z))))) (n (boot_o_5 P) (n (boot_o_9 P) (n ak (n al (n ab (f (bi P)) (f (bY P))) (n ad (f bZ) (f cn))) (n ac (n (aO P) (f ad) (f aa)) (n ab (f b0) z))) (n aa (n aa (n ad (f ab) (f cp)) (n (a2 P) (f bF) z)) (n bu (n ab (f (bv P)) (f ab)) (n ad (f aa) z)))) (n ae (n am (n aa (n (aC P) (f ad) (f cq)) gP) (n aD (n ad (f ab) (f cr)) (n (a9 P) (f aa) z))) (n aa (n aE (n ab (f (bn P)) (f ab)) (n ad (f bG) z)) (n ad (n (aV P) (f aa) (f b1)) (n ab (f ct) z)))))) (n (boot_o_2 P) (n (boot_o_4 P) (n (boot_o_8 P) (n ab (n an (n aa (f aa) (f b2)) (n a3 (f aa) (f ab))) (n ao (n aa (f bw) (f b3)) (n aa (f b4) z))) (n ap gS (n (ar P) gN (n bg (f cu) z)))) (n (l3 [(1,0,20),(5,0,27),(13,0,32),(18,0,39),(23,0,46),(34,0,53),(36,0,66),(38,0,78),(40,0,90),(42,0,102),(44,0,114),(46,0,126),(48,0,138),(50,0,150),(53,0,162),(60,0,183),(68,0,202),(74,0,207),(79,0,214),(88,0,221),(94,0,226),(101,0,231)]) (n au (n av (n aa (f bo) (f b7)) gN) (n ab (n aW (f aa) (f aa)) (n aa (f (cv P)) z))) (n aw (n aa gN (n ba (f (bH P)) z)) (n aF (n aa (f bI) (f cw)) gM)))) (n (boot_o_6 P) (n (boot_o_10 P) (n aa (n aa (n aQ (f bj) (f b8)) (n ac (f b9) (f ca))) (n (aG P) (n aR (f ac) (f ab)) (n bh (f aa) z))) (n aH (n ab (n ac (f bx) (f cb)) (n a4 (f bJ) z)) (n ax (n a5 (f bz) (f cc)) (n ac (f ab) z)))) (n af (n aa (n aI (n aJ (f ac) (f cB)) (n bb (f bK) (f cC))) (n aK (n ac (f bL) (f cd)) (n bc (f cD) z))) (n ab (n ay (n aX (f bp) (f cF)) (n ac (f bM) z)) (n ac (n aY (f ac) (f ce)) (n bq (f cf) z))))))
theorem te14110608477494155056:tw14110608477494155056=tw14110608477494155056:=rfl
def tw3838540229632588113:Params→BT:=fun P=>n (boot_o_0 P) (n (boot_o_1 P) (n (gy P) (n (boot_o_7 P) (g3 P) (n ab (n ah (n aM (f (bs P)) z) (f a6)) (n aa (n (a0 P) (f bB) z) (f be)))) (n aa (n aA (n ab (n aN (f bl) z) (f (a7 P))) (n aa (n aT (f (bC P)) z) (f bf))) (n ai (n aj (n (aU P) (f bt) z) (f a8)) (n aB (n a1 (f bE) z) (f (bm P)))))) (n (boot_o_5 P) (n (boot_o_9 P) (n ak (n al (n ab (f (bi P)) z) (f ad)) (n ac (n (aO P) (f ad) z) (f ab))) (n aa (n aa (n ad (f ab) z) (f (a2 P))) (n bu (n ab (f (bv P)) z) (f ad)))) (n ae (n am (n aa (n (aC P) (f ad) z) (f ab)) (n aD (n ad (f ab) z) (f (a9 P)))) (g4 P)))) (n (boot_o_2 P) (n (boot_o_4 P) (n (boot_o_8 P) g5 (n ap (n aq (n aP (f aa) z) (f aa)) (n (ar P) gM (f bg)))) (n (l3 [(1,0,20),(5,0,27),(13,0,32),(18,0,39),(23,0,46),(34,0,53),(36,0,66),(38,0,78),(40,0,90),(42,0,102),(44,0,114),(46,0,126),(48,0,138),(50,0,150)]) (n au (n av (n aa (f bo) z) (f aa)) (n ab (n aW (f aa) z) (f aa))) (n aw (n aa gM (f ba)) (n aF (n aa (f bI) z) (f aa))))) (n (boot_o_6 P) (n (boot_o_10 P) (n aa (n aa (n aQ (f bj) z) (f ac)) (n (aG P) (n aR (f ac) z) (f bh))) (n aH (n ab (n ac (f bx) z) (f a4)) (n ax (n a5 (f bz) z) (f ac)))) (n af (n aa (n aI (n aJ (f ac) z) (f bb)) (n aK (n ac (f bL) z) (f bc))) g6)))
theorem te3838540229632588113:tw3838540229632588113=tw3838540229632588113:=rfl
def tw15306293411681197937:Params→BT:=fun P=>n (boot_o_0 P) (n (boot_o_1 P) (n (gA P) (n (boot_o_7 P) (n aa (n az (f (aL P)) z) (f ag)) (n ab (n ah (f aM) z) (f aa))) (n aa (n aA (n ab (f aN) z) (f aa)) (n ai (f aj) (f aB)))) (n (boot_o_5 P) (n (boot_o_9 P) (n ak (n al (f ab) z) (f ac)) (n aa (f aa) (f (ty (cl (S "PatchError") [(w "ValueError")] [(r 57),(w "ValueError"),(w "Exception"),(w "BaseException"),(w "object")] 56 (S "PatchError") true [] [(r 70)] false none false) [(k (r 48)),none,(k (v "PatchError" 238)),(k (v "PatchError" 246)),(k (b "ValueError.__new__")),(k (vl true))])))) (n ae (n am (n aa (f (aC P)) z) (f aD)) (n aa (f aE) (f ad))))) (n (boot_o_2 P) (n (boot_o_4 P) (n (boot_o_8 P) (n ab (n an (f aa) z) (f ao)) (n ap (n aq (f aP) z) (f (ar P)))) (n (l3 [(1,0,20),(5,0,27),(13,0,32),(18,0,39),(23,0,46),(34,0,53),(36,0,66)]) (n au (n av (f aa) z) (f ab)) (n aw (f aa) (f aF)))) (n (boot_o_6 P) (n (boot_o_10 P) (n aa (n aa (f aQ) z) (f (aG P))) (n aH (f ab) (f ax))) (n af (n aa (n aI (f aJ) z) (f aK)) (n ab (f ay) (f ac)))))
theorem te15306293411681197937:tw15306293411681197937=tw15306293411681197937:=rfl
def tw548717145233587858:Params→BT:=fun P=>n (boot_o_0 P) (n (boot_o_1 P) (n (gD P) (n (boot_o_7 P) (n aa (n az (f (aL P)) (f aZ)) (n ag (f aS) z)) (n ab (n ah (f aM) (f a6)) (n aa (f (a0 P)) z))) (n aa (n aA (n ab (f aN) (f (a7 P))) (n aa (f aT) z)) (n ai (n aj (f (aU P)) (f a8)) (n aB (f a1) z)))) (n (boot_o_5 P) (n (boot_o_9 P) (n ak (n al (f ab) (f ad)) (n ac (f (aO P)) z)) (n aa (n aa (f ad) (f (a2 P))) (n (ty (cl (S "PatchError") [(w "ValueError")] [(r 57),(w "ValueError"),(w "Exception"),(w "BaseException"),(w "object")] 56 (S "PatchError") true [] [(r 70),(r 82),(r 94),(r 106)] false none false) [(k (r 48)),none,(k (v "PatchError" 238)),(k (v "PatchError" 246)),(k (b "ValueError.__new__")),(k (vl true))]) (f ab) z))) (n ae (n am (n aa (f (aC P)) (f ab)) (n aD (f ad) z)) (n aa (n aE (f ab) z) (n ad (f (aV P)) z))))) (n (boot_o_2 P) (n (boot_o_4 P) (n (boot_o_8 P) gZ (n ap (n aq (f aP) (f aa)) (n (ar P) (f aa) z))) (n (l3 [(1,0,20),(5,0,27),(13,0,32),(18,0,39),(23,0,46),(34,0,53),(36,0,66),(38,0,78),(40,0,90),(42,0,102)]) (n au (n av (f aa) (f aa)) (n ab (f aW) z)) gJ)) (n (boot_o_6 P) (n (boot_o_10 P) (n aa (n aa (f aQ) (f ac)) (n (aG P) (f aR) z)) gK) (n af (n aa (n aI (f aJ) (f bb)) (n aK (f ac) z)) g1)))
theorem te548717145233587858:tw548717145233587858=tw548717145233587858:=rfl
def tw17958962112537249555:Params→BT:=fun P=>n (boot_o_0 P) (n (boot_o_1 P) (n (gG P) (n (boot_o_7 P) (n aa (n az (n (aL P) (n bk (f aa) z) (f bN)) (n aZ (n (bO P) (f cI) z) (f aa))) (n ag (n aS (n br (f aa) z) (f bP)) (n (bd P) (n bA (f c8) z) (f cg)))) (n ab (n ah (n aM (n (bs P) (f ch) z) (f aa)) (n a6 gM (f bQ))) (n aa (n (a0 P) (n bB (f ab) z) (f bR)) (n be (n ci (f c9) z) (f aa))))) (n aa (n aA (n ab (n aN (n bl (f aa) z) (f bS)) (n (a7 P) (n bT (f cJ) z) (f bU))) (n aa (n aT (n (bC P) (f da) z) (f bV)) (n bf (n ac (f (cK P)) z) (f aa)))) (n ai (n aj (n (aU P) (n bt (f aa) z) (f bW)) (n a8 (n bD (f aa) z) (f cj))) (n aB (n a1 (n bE (f cL) z) (f aa)) (n (bm P) (f bX) (f ck)))))) (n (boot_o_5 P) (n (boot_o_9 P) (n ak (n al (n ab (n (bi P) (f cm) z) (f (bY P))) (n ad (n bZ (f df) z) (f cn))) (n ac (n (aO P) (n ad (f cM) z) (f aa)) (n ab (n b0 (f cN) z) (f ab)))) (n aa (n aa (n ad gT (f cp)) (n (a2 P) (n bF (f cO) z) (f aa))) (n bu (n ab (n (bv P) (f aa) z) (f ab)) (n ad (f aa) (f cP))))) (n ae (n am (n aa (n (aC P) (n ad (f cQ) z) (f cq)) (n ab gR (f ab))) (n aD (n ad (n ab (f cR) z) (f cr)) (n (a9 P) (n aa (f cS) z) (f cs)))) (n aa (n aE (n ab (n (bn P) (f dj) z) (f ab)) (n ad (n bG (f cT) z) (f cU))) (n ad (n (aV P) gM (f b1)) (n ab (f ct) (f ab))))))) (n (boot_o_2 P) (n (boot_o_4 P) (n (boot_o_8 P) (n ab (n an (n aa (n aa (f cV) z) (f b2)) (n a3 gM (f ab))) (n ao (n aa (n bw (f ab) z) (f b3)) (n aa (n b4 (f cW) z) (f aa)))) (n ap (n aq (n aP gM (f ab)) (n aa (n b5 (f dm) z) (f b6))) (n (ar P) (n aa (n aa (f cX) z) (f aa)) (n bg (n cu (f dp) z) (f ab))))) (n (l3 [(1,0,20),(5,0,27),(13,0,32),(18,0,39),(23,0,46),(34,0,53),(36,0,66),(38,0,78),(40,0,90),(42,0,102),(44,0,114),(46,0,126),(48,0,138),(50,0,150),(53,0,162),(60,0,183),(68,0,202),(74,0,207),(79,0,214),(88,0,221),(94,0,226),(101,0,231),(104,0,238),(114,0,245),(120,0,250),(136,0,257),(141,0,262),(156,0,269)]) (n au (n av (n aa (n bo (f ab) z) (f b7)) (n aa gM (f aa))) (n ab (n aW (n aa (f cY) z) (f aa)) (n aa (n (cv P) (f cZ) z) (f c0)))) (n aw (n aa (n aa (n aa (f dr) z) (f aa)) (n ba (n (bH P) (f ab) z) (f aa))) (n aF (n aa (n bI (f c1) z) (f cw)) gN)))) (n (boot_o_6 P) (n (boot_o_10 P) (n aa (n aa (n aQ (n bj (f cx) z) (f b8)) (n ac (n b9 (f c2) z) (f ca))) (n (aG P) (n aR (n ac (f aa) z) (f ab)) (n bh (n aa (f c3) z) (f cy)))) (n aH (n ab (n ac (n bx (f (dv P)) z) (f cb)) (n a4 (n bJ (f c4) z) (f ab))) (n ax (n a5 (n bz (f dw) z) (f cc)) (n ac (f ab) (f cz))))) (n af (n aa (n aI (n aJ (n ac (f cA) z) (f cB)) (n bb (n bK (f c5) z) (f cC))) (n aK (n ac (n bL (f aa) z) (f cd)) (n bc (n cD (f c6) z) (f cE)))) (n ab (n ay (n aX (n bp (f dy) z) (f cF)) (n ac (n bM (f aa) z) (f cG))) (n ac (n aY (n ac (f ab) z) (f ce)) (n bq (f cf) (f cH)))))))
theorem te17958962112537249555:tw17958962112537249555=tw17958962112537249555:=rfl
def tw17347233963893445594:Params→BT:=fun P=>n (boot_o_0 P) (n (boot_o_1 P) (n (fe P) (n (boot_o_7 P) (n aa (n az (n (aL P) (n bk (n aa (f fS) z) (f d9)) (n bN (n c7 (f ff) z) (f ab))) (n aZ (n (bO P) (n cI (f fg) z) (f aa)) (n aa (f ea) (f aa)))) (n ag (n aS (n br (n aa (f fh) z) (f aa)) (n bP (f ab) (f en))) (n (bd P) (n bA (n c8 (f fi) z) (f eY)) (n cg (f aa) (f eo))))) (n ab (n ah (n aM (n (bs P) (n ch (f fj) z) (f aa)) (n aa (n aa (f (fv "law" "law" (x 53))) z) (f eZ))) (n a6 (n aa gO (f aa)) (n bQ (f dA) (f ab)))) (n aa (n (a0 P) (n bB (n ab (f fk) z) (f dB)) (n bR (f dC) (f ep))) (n be (n ci (n c9 (f aa) z) (f aa)) (n aa (f ab) (f eq)))))) (n aa (n aA (n ab (n aN (n bl gO (f ab)) (n bS (n aa (f fm) z) (f er))) (n (a7 P) (n bT (n cJ (f fU) z) (f dD)) (n bU (f dE) (f e0)))) (n aa (n aT (n (bC P) (n da (f fo) z) (f aa)) (n bV (f db) (f es))) (n bf (n ac (n (cK P) (f fp) z) (f ab)) (n aa (f eb) (f et))))) (n ai (n aj (n (aU P) (n bt (n aa (f fq) z) (f dF)) (n bW (f dG) (f ab))) (n a8 (n bD (n aa (f fs) z) (f aa)) (n cj (f aa) (f eu)))) (n aB (n a1 (n bE (n cL (f ft) z) (f aa)) (n aa (f ac) (f aa))) (n (bm P) (n bX (n dc (f aa) z) (f e1)) (n ck (f dH) (f aa))))))) (n (boot_o_5 P) (n (boot_o_9 P) (n ak (n al (n ab (n (bi P) (n cm (f fu) z) (f dI)) (n (bY P) gR (f aa))) (n ad (n bZ (n df (f aa) z) (f ec)) (n cn (f aa) (f ev)))) (n ac (n (aO P) (n ad (n cM (f ab) z) (f dJ)) gN) (n ab (n b0 (n cN (f fV) z) (f ew)) (n ab (f dK) (f e2))))) (n aa (n aa (n ad (n ab (n ac (f aa) z) (f ed)) (n cp (n dg (f fw) z) (f ex))) (n (a2 P) (n bF (n cO (f aa) z) (f dL)) g2)) (n bu (n ab (n (bv P) (n aa (f fW) z) (f ab)) (n ab (f dh) (f ab))) (n ad (n aa (n aa (f fx) z) (f ey)) (n cP (f aa) (f e3)))))) (n ae (n am (n aa (n (aC P) (n ad (n cQ (f aa) z) (f dM)) (n cq (n di (f aa) z) (f aa))) (n ab (n ab (n ab (f fy) z) (f ab)) (n ab (f ee) (f ez)))) (n aD (n ad (n ab (n cR (f aa) z) (f ef)) (n cr (f aa) (f e4))) (n (a9 P) (n aa (n cS (f ab) z) (f eA)) (n cs (f dN) (f (eB P)))))) (n aa (n aE (n ab (n (bn P) (n dj (f fX) z) (f ab)) (n ab (f dk) (f aa))) (n ad (n bG (n cT (f aa) z) (f eC)) (n cU (f dO) (f aa)))) (n ad (n (aV P) (n aa gO (f dP)) (n b1 (f aa) (f eD))) (n ab (n ct (n dQ (f fY) z) (f eE)) (n ab (f aa) (f fz)))))))) (n (boot_o_2 P) (n (boot_o_4 P) (n (boot_o_8 P) (n ab (n an (n aa (n aa (n cV (f fA) z) (f dR)) (n b2 gM (f eF))) (n a3 (n aa (n aa (f fB) z) (f ab)) (n ab (f eg) (f ab)))) (n ao (n aa (n bw (n ab (f aa) z) (f eh)) (n b3 (f dl) (f eG))) (n aa (n b4 (n cW (f aa) z) (f eH)) g2))) (n ap (n aq (n aP (n aa (n aa (f fC) z) (f ab)) (n ab (n ab (f fD) z) (f eI))) (n aa (n b5 (n dm (f fE) z) (f ei)) (n b6 (f aa) (f eJ)))) (n (ar P) (n aa (n aa (n cX (f aa) z) (f aa)) (n aa (f dn) (f aa))) (n bg (n cu (n dp (f fZ) z) (f ab)) (n ab (f dS) (f eK)))))) (n f0 (n au (n av (n aa (n bo (n ab (f fF) z) (f ej)) (n b7 (n dT (f fG) z) (f eL))) (n aa (n aa (n aa (f fH) z) (f aa)) (n aa (f aa) (f eM)))) (n ab (n aW (n aa (n cY (f fI) z) (f ab)) (n aa (f dq) (f aa))) (n aa (n (cv P) (n cZ (f aa) z) (f e5)) (n c0 (f dU) (f eN))))) (n aw (n aa (n aa (n aa (n dr (f aa) z) (f aa)) (n aa (f ds) (f eO))) (n ba (n (bH P) (n ab (f fJ) z) (f ab)) (n aa (f ek) (f eP)))) (n aF (n aa (n bI (n c1 (f aa) z) (f el)) (n cw (f (e6 P)) (f e7))) (n aa (n aa gO (f eQ)) (n aa (f dV) (f ab))))))) (n (boot_o_6 P) (n (boot_o_10 P) (n aa (n aa (n aQ (n bj (n cx (f aa) z) (f aa)) (n b8 (n du (f f1) z) (f e8))) (n ac (n b9 (n c2 (f ab) z) (f dW)) (n ca (f ab) (f aa)))) (n (aG P) (n aR (n ac (n aa (f f2) z) (f dX)) (n ab (f dY) (f ab))) (n bh (n aa (n c3 (f fK) z) (f aa)) (n cy (f aa) (f eR))))) (n aH (n ab (n ac (n bx (n (dv P) (f ab) z) (f dZ)) (n cb (f aa) (f aa))) (n a4 (n bJ (n c4 (f f3) z) (f eS)) (n ab (f d0) (f e9)))) (n ax (n a5 (n bz (n dw (f fL) z) (f d1)) (n cc (f aa) (f eT))) (n ac (n ab (n ab (f fM) z) (f aa)) (n cz (f em) (f fa)))))) (n af (n aa (n aI (n aJ (n ac (n cA (f f4) z) (f d2)) (n cB (n dx (f ab) z) (f ab))) (n bb (n bK (n c5 (f aa) z) (f d3)) (n cC (f d4) (f aa)))) (n aK (n ac (n bL gO (f d5)) (n cd (f ab) (f eU))) (n bc (n cD (n c6 (f fN) z) (f eV)) (n cE (f aa) (f eW))))) (n ab (n ay (n aX (n bp (n dy (f fO) z) (f d6)) (n cF (f aa) (f fb))) (n ac (n bM gO (f aa)) (n cG (f d7) (f ab)))) (n ac (n aY (n ac (n ab (f f5) z) (f d8)) (n ce (f fc) (f eX))) (n bq (n cf (n dz (f fP) z) (f aa)) (n cH (f ab) (f aa))))))))
theorem te17347233963893445594:tw17347233963893445594=tw17347233963893445594:=rfl
def tw2601502530029277863:Params→Heap:=fun P=>Heap.mk #[boot_o_0 P,boot_o_1 P,boot_o_2 P,boot_o_3 P,boot_o_4 P,boot_o_5 P,boot_o_6 P,boot_o_7 P,boot_o_8 P,boot_o_9 P,boot_o_10 P,aa,ab,ae,af] (Life.mk [] [] [] 0 [] [] false #[] [] 0 false false false 0 [2000,10,10] false 0 true [] [] 0 false)
theorem te2601502530029277863:tw2601502530029277863=tw2601502530029277863:=rfl
def tw3698507144788041617:Params→Heap:=fun P=>Heap.mk #[boot_o_0 P,boot_o_1 P,boot_o_2 P,fe P,boot_o_4 P,boot_o_5 P,boot_o_6 P,boot_o_7 P,boot_o_8 P,boot_o_9 P,boot_o_10 P,aa,f0,ae,af,aa,ab,ak,aa,aA,au,am,aa,ab,ap,aa,aH,ai,aw,aa,ab,az,an,al,aa,ab,av,aa,aI,ah,aq,aa,ab,aj,aa,aE,ay,ag,ao,ac,aG P,aa,ab,aD,aK,aa,ar P,bu,ax,aB,aF,ad,ac,aL P,aa,ab,aQ,aN,aa,aC P,aJ,aM,aP,ad,ac,aU P,aa,ab,aX,aS,aa,aO P,aR,aT,aW,ad,ac,a0 P,aa,ab,a5,a1,aa,aV P,aY,aZ,a3,ad,ac,a7 P,aa,ab,bb,a6,aa,a2 P,a4,a8,ba,ad,ac,bd P,aa,ab,bh,bf,aa,a9 P,bc,be,bg,ad,ac,bm P,aa,ab,bq,bk,aa,bi P,bj,bl,bo,ad,ac,bs P,aa,ab,bx,bt,aa,bn P,bp,br,bw,ad,ac,bC P,aa,ab,bL,bB,aa,bv P,bz,bE,bI,aa,ac,bO P,aa,bZ,b9,bT,aa,ab,bK,aa,b5,bF,bJ,bD,bH P,bG,bM,bA,b4,b0,aa,ac,cv P,aa,cD,ci,cu,aa,ab,bX,aa,ct,cf,bN,b2,bY P,b8,bS,b7,cq,cB,aa,ab,cp,cb,bW,aa,ab,cF,bP,b3,aa,ab,bV,aa,cr,cd,bR,aa,ab,cc,aa,cw,b1,ce,aa,ab,cn,ca,bU,aa,ab,cC,bQ,b6,aa,ab,cj,aa,cU,cG,cg,aa,ab,cy,aa,c0,cs,cE,aa,ab,cP,cz,ck,aa,ab,cH,aa,cV,cm,cx,aa,ab,cQ,cA,ch,aa,ac,dv P,aa,dr,dj,dy,aa,ab,cM,aa,da,cY,cR,aa,ab,cX,aa,dw,cL,c1,aa,ab,cI,aa,df,c2,cJ,aa,ab,c5,aa,dm,cO,c4,aa,ab,cT,aa,c8,cW,cN,c3,cK P,cZ,cS,c6,c9,dp,aa,ab,dc,aa,dQ,dz,c7,aa,ab,du,aa,dT,di,dx,aa,ab,dg,aa,dG,ds,dk,aa,ab,dl,aa,dY,db,dq,aa,ab,dC,dn,dh,aa,ac,e6 P,aa,fc,ea,eg,aa,ab,dE,aa,ee,d4,dA,aa,ab,d0,aa,ek,dO,d7,aa,ab,dK,aa,eb,dU,dN,aa,ab,dS,aa,em,dH,dV,aa,ab,d9,dR,dI,aa,ab,ej,dM,d2,aa,ab,ed,dZ,dF,aa,ab,d6,aa,eh,dJ,dX,aa,ab,ef,d5,dB,aa,ab,d1,aa,el,dP,d8,aa,ab,ec,dW,dD,aa,ab,d3,aa,ei,dL,eS,aa,ab,eC,aa,eY,eH,ew,aa,ab,e5,eA,eV,aa,ab,ey,aa,e1,eQ,eE,aa,ab,eF,aa,e8,er,eL,aa,ab,eZ,eI,ex,aa,ab,eO,aa,fb,en,eG,aa,ab,es,aa,e4,eU,ep,aa,ab,eT,aa,e7,eD,eX,aa,ab,ev,aa,e0,eM,ez,aa,ab,eJ,aa,e9,eu,eP,aa,ab,eo,aa,e2,eR,et,eN,eB P,eW,eq,eK,e3,fa,aa,ab,fz,aa,fS,fA,fu,aa,ab,fF,aa,f4,fj,fC,aa,ab,fq,aa,fX,fO,fh,aa,ab,f2,fo,fI,aa,ab,fk,aa,fW,fL,ft,aa,ab,f5,fg,fB,aa,ab,fU,fH,fy,aa,ab,fE,aa,f3,fs,fJ,aa,ab,fi,aa,fV,fK,fp,aa,ab,fN,aa,fZ,fx,fM,aa,ab,fY,fP,ff,aa,ab,f1,fm,fG,aa,ab,fv "law" "law" (x 53),fD,fw] (Life.mk [] [] [] 0 [] [] false #[] [] 0 false false false 0 [2000,10,10] false 0 true [] [] 0 false)
theorem te3698507144788041617:tw3698507144788041617=tw3698507144788041617:=rfl
def tw3491936217929414671:Params→Frag:=fun P=>[(2,boot_o_2 P),(3,fe P),(15,aa),(17,ak),(18,aa),(20,au),(21,am),(22,aa),(24,ap),(25,aa),(27,ai),(28,aw),(29,aa),(32,an),(33,al),(34,aa),(36,av),(37,aa),(39,ah),(40,aq),(41,aa),(43,aj),(44,aa),(46,ay),(47,ag),(48,ao),(55,aa),(56,ar P),(57,bu),(58,ax),(61,ad),(68,aa),(69,aC P),(70,aJ),(73,ad),(80,aa),(81,aO P),(82,aR),(85,ad),(92,aa),(93,aV P),(94,aY),(97,ad),(104,aa),(105,a2 P),(106,a4),(109,ad),(116,aa),(117,a9 P),(118,bc),(121,ad),(128,aa),(129,bi P),(130,bj),(133,ad),(140,aa),(141,bn P),(142,bp),(145,ad),(152,aa),(153,bv P),(154,bz),(164,aa),(166,bK),(167,aa),(169,bF),(170,bJ),(171,bD),(172,bH P),(173,bG),(174,bM),(175,bA),(185,aa),(187,bX),(188,aa),(190,cf),(191,bN),(192,b2),(193,bY P),(194,b8),(195,bS),(196,b7),(199,aa),(202,cb),(203,bW),(204,aa),(207,bP),(208,b3),(209,aa),(211,bV),(212,aa),(214,cd),(215,bR),(216,aa),(218,cc),(219,aa),(221,b1),(222,ce),(223,aa),(226,ca),(227,bU),(228,aa),(231,bQ),(232,b6),(233,aa),(235,cj),(236,aa),(238,cG),(239,cg),(240,aa),(242,cy),(243,aa),(245,cs),(246,cE),(247,aa),(250,cz),(251,ck),(252,aa),(254,cH),(255,aa),(257,cm),(258,cx),(259,aa),(262,cA),(263,ch),(271,aa),(273,cM),(274,aa),(276,cY),(277,cR),(278,aa),(280,cX),(281,aa),(283,cL),(284,c1),(285,aa),(287,cI),(288,aa),(290,c2),(291,cJ),(292,aa),(294,c5),(295,aa),(297,cO),(298,c4),(299,aa),(301,cT),(302,aa),(304,cW),(305,cN),(306,c3),(307,cK P),(308,cZ),(309,cS),(310,c6),(313,aa),(315,dc),(316,aa),(318,dz),(319,c7),(320,aa),(322,du),(323,aa),(325,di),(326,dx),(327,aa),(329,dg),(330,aa),(332,ds),(333,dk),(334,aa),(336,dl),(337,aa),(339,db),(340,dq),(341,aa),(344,dn),(345,dh),(353,aa),(355,dE),(356,aa),(358,d4),(359,dA),(360,aa),(362,d0),(363,aa),(365,dO),(366,d7),(367,aa),(369,dK),(370,aa),(372,dU),(373,dN),(374,aa),(376,dS),(377,aa),(379,dH),(380,dV),(381,aa),(384,dR),(385,dI),(386,aa),(389,dM),(390,d2),(391,aa),(394,dZ),(395,dF),(396,aa),(398,d6),(399,aa),(401,dJ),(402,dX),(403,aa),(406,d5),(407,dB),(408,aa),(410,d1),(411,aa),(413,dP),(414,d8),(415,aa),(418,dW),(419,dD),(420,aa),(422,d3),(423,aa),(425,dL),(426,eS),(427,aa),(429,eC),(430,aa),(432,eH),(433,ew),(434,aa),(437,eA),(438,eV),(439,aa),(441,ey),(442,aa),(444,eQ),(445,eE),(446,aa),(448,eF),(449,aa),(451,er),(452,eL),(453,aa),(456,eI),(457,ex),(458,aa),(460,eO),(461,aa),(463,en),(464,eG),(465,aa),(467,es),(468,aa),(470,eU),(471,ep),(472,aa),(474,eT),(475,aa),(477,eD),(478,eX),(479,aa),(481,ev),(482,aa),(484,eM),(485,ez),(486,aa),(488,eJ),(489,aa),(491,eu),(492,eP),(493,aa),(495,eo),(496,aa),(498,eR),(499,et),(500,eN),(501,eB P),(502,eW),(503,eq),(504,eK),(507,aa),(509,fz),(510,aa),(512,fA),(513,fu),(514,aa),(516,fF),(517,aa),(519,fj),(520,fC),(521,aa),(523,fq),(524,aa),(526,fO),(527,fh),(528,aa),(531,fo),(532,fI),(533,aa),(535,fk),(536,aa),(538,fL),(539,ft),(540,aa),(543,fg),(544,fB),(545,aa),(548,fH),(549,fy),(550,aa),(552,fE),(553,aa),(555,fs),(556,fJ),(557,aa),(559,fi),(560,aa),(562,fK),(563,fp),(564,aa),(566,fN),(567,aa),(569,fx),(570,fM),(571,aa),(574,fP),(575,ff),(576,aa),(579,fm),(580,fG),(581,aa),(584,fD),(585,fw)]
theorem te3491936217929414671:tw3491936217929414671=tw3491936217929414671:=rfl
def tw15414055126965491872:List Stmt:=[x 12]
theorem te15414055126965491872:tw15414055126965491872=tw15414055126965491872:=rfl
def tw4107438139212518752:List Stmt:=[x 10]
theorem te4107438139212518752:tw4107438139212518752=tw4107438139212518752:=rfl
def tw2546694548657071776:List Stmt:=[x 14]
theorem te2546694548657071776:tw2546694548657071776=tw2546694548657071776:=rfl
def tw4534444885250427521:List Stmt:=[x 34,x 35,x 36,x 37,x 38]
theorem te4534444885250427521:tw4534444885250427521=tw4534444885250427521:=rfl
def tw14974778689155071875:List Stmt:=[x 15,x 16]
theorem te14974778689155071875:tw14974778689155071875=tw14974778689155071875:=rfl
def tw18394558526290403338:List Stmt:=[x 9]
theorem te18394558526290403338:tw18394558526290403338=tw18394558526290403338:=rfl
def tw3136921019823250892:List Stmt:=[x 17]
theorem te3136921019823250892:tw3136921019823250892=tw3136921019823250892:=rfl
def tw13806214591492865262:List Stmt:=[x 30,x 31,x 32,x 33]
theorem te13806214591492865262:tw13806214591492865262=tw13806214591492865262:=rfl
def tw6987223803417408974:List Stmt:=[x 0,x 1,x 2,x 3,x 4,x 5,x 6,x 7]
theorem te6987223803417408974:tw6987223803417408974=tw6987223803417408974:=rfl
def tw6192682394791733711:List Stmt:=[x 11]
theorem te6192682394791733711:tw6192682394791733711=tw6192682394791733711:=rfl
def tw6865987400952058800:List Stmt:=[x 40,x 41,x 42,x 43,x 44,x 45,x 46,x 47,x 48,x 49,x 50,x 51,x 52,x 53]
theorem te6865987400952058800:tw6865987400952058800=tw6865987400952058800:=rfl
def tw12938762348600836049:List Stmt:=[x 8]
theorem te12938762348600836049:tw12938762348600836049=tw12938762348600836049:=rfl
def tw16621940748802916632:List Stmt:=[x 39]
theorem te16621940748802916632:tw16621940748802916632=tw16621940748802916632:=rfl
def tw14086739546241908280:List Stmt:=[x 13]
theorem te14086739546241908280:tw14086739546241908280=tw14086739546241908280:=rfl
def tw7368814682420650012:List Stmt:=[x 18,x 19,x 20,x 21,x 22,x 23,x 24]
theorem te7368814682420650012:tw7368814682420650012=tw7368814682420650012:=rfl
def tw18435352658671733085:List Stmt:=[x 25,x 26,x 27,x 28,x 29]
theorem te18435352658671733085:tw18435352658671733085=tw18435352658671733085:=rfl
def tw9659638597883561674:Program:={PySem.Challenge.pw_patchkin_k11_whole_there_and_back with main:={PySem.Challenge.pw_patchkin_k11_whole_there_and_back.main with body:=[x 0,x 2,x 3,x 4,x 5,x 7,x 8,x 9,x 10,x 11,x 12,x 13,x 14,x 15,x 17,x 18,x 19,x 20,x 21,x 22,x 23,x 24,x 25,x 26,x 27,x 28,x 29,x 30,x 32,x 33,x 34,x 35,x 36,x 37,x 38,x 39,x 41,x 42,x 43,x 44,x 45,x 46,x 47,x 48,x 49,x 50,x 51,x 52,x 53]}}
theorem te9659638597883561674:tw9659638597883561674=tw9659638597883561674:=rfl
end
end PySem.W.Fast
namespace PK
open PySem L2
theorem all_mk{l:W.OpenLaw}{w:World}{K:Qqy}{h:Heap}{mg:Qqx}{fa f0 f1 f2 f3 f4 f5 f6 f7 f8 f9 f10 f11 f12 f13 f14 f15 f16 f17 f18 f19 f20 f21 f22 f23 f24 f25 f26 f27 f28 f29 f30 f31 f32 f33 f34 f35 f36 f37 f38 f39 f40 f41 f42 f43 f44 f45 f46 f47 f48 f49 f50 f51 f52 f53 f54 f55 f56 f57 f58 hU hV ie gq lU jA jr iU jV ox lA uC sY:Addr}{nN lV:Tok}(X:K.In h)(G:h.Ns mainGlobals mg)(Ys:mg "law"=some (.ref fa))
  (Dx:W.nsIn K mainGlobals "Line"=some (some (.ref hU)))
  (AG:W.nsIn K mainGlobals "Patch"=some (some (.ref hV)))
  (AH:W.nsIn K mainGlobals "Sight"=some (some (.ref ie)))
  (Dy:W.nsIn K mainGlobals "Desk"=some (some (.ref gq)))
  (h0:FI K "counts_with" pj f0)
  (h1:FI K "most_pairs" qo f1)
  (h2:FI K "place_from" qp f2)
  (h3:FI K "kept" Ga f3)
  (h4:FI K "lines_named_by" kR f4)
  (h5:FI K "leans_straight_on" jQ f5)
  (h6:FI K "live_patches" n6 f6)
  (h7:FI K "lines_put" rK f7)
  (h8:FI K "standing_lines" kS f8)
  (h9:FI K "files_with_lines" n9 f9)
  (U9:FI K "straight_ahead" mr f10)
  (TX:FI K "joined" zQ f11)
  (YN:FI K "all_ahead" oR f12)
  (YO:FI K "first_free" qt f13)
  (YQ:FI K "row_of" vk f14)
  (YR:FI K "check_name" qv f15)
  (YS:FI K "check_places" n_ f16)
  (YT:FI K "kept_behind" pk f17)
  (YU:FI K "new_lines" rL f18)
  (YV:FI K "changing_patch" jU f19)
  (U_:FI K "_law_cell_at" oe f20)
  (TY:FI K "_law_draw" rQ f21)
  (YW:FI K "_law_name" rR f22)
  (YX:FI K "_law_text" oT f23)
  (YY:FI K "_law_edit" rS f24)
  (YZ:FI K "_law_deed" oU f25)
  (Y0:FI K "_law_desk" mO f26)
  (Y1:FI K "_law_whole" qA f27)
  (Y2:FI K "_law_row_form" nr f28)
  (Y3:FI K "_law_pairs_form" lQ f29)
  (Y4:FI K "_law_seen" oV f30)
  (Y5:FI K "_law_change" mF f31)
  (Y6:FI K "law" G3 f32)
  (Y7:MI K hU "__init__" "Line.__init__" nc f33)
  (Y8:MI K hV "__init__" "Patch.__init__" mq f34)
  (Y9:MI K ie "__init__" "Sight.__init__" mv f35)
  (Y_:MI K ie "is_ahead" "Sight.is_ahead" mw f36)
  (Za:MI K ie "quarrelling" "Sight.quarrelling" kX f37)
  (Zb:MI K gq "__init__" "Desk.__init__" ni f38)
  (Zc:MI K gq "begin" "Desk.begin" qw f39)
  (Va:MI K gq "stores" "Desk.stores" tN f40)
  (T1:MI K gq "patches" "Desk.patches" rM f41)
  (Zd:MI K gq "has" "Desk.has" qx f42)
  (Ze:MI K gq "record" "Desk.record" mE f43)
  (Zf:MI K gq "cut" "Desk.cut" qy f44)
  (Zg:MI K gq "back" "Desk.back" rN f45)
  (Zh:MI K gq "take" "Desk.take" oS f46)
  (Zi:MI K gq "drop" "Desk.drop" rO f47)
  (Zj:MI K gq "leans" "Desk.leans" nM f48)
  (Zk:MI K gq "files" "Desk.files" vp f49)
  (Vb:MI K gq "row" "Desk.row" qz f50)
  (T2:MI K gq "quarrels" "Desk.quarrels" nj f51)
  (Zl:MI K gq "patches_of" "Desk.patches_of" ky f52)
  (Zm:MI K gq "sight_of" "Desk.sight_of" nq f53)
  (Zn:MI K gq "check_store" "Desk.check_store" lq f54)
  (Zo:MI K gq "check_made" "Desk.check_made" lO f55)
  (Zp:MI K gq "check_held" "Desk.check_held" lP f56)
  (Zq:MI K gq "check_new" "Desk.check_new" mx f57)
  (Zr:MI K gq "keep" "Desk.keep" rP f58)
  (Dz:W.plainGet K hU Str.empty=true)
  (DA:W.hasDictIn K hU=true)
  (DB:W.plainOver K hU=true)
  (DC:W.findIn K (.ref hU) "__setattr__"=some (some (.builtin "object.__setattr__")))
  (DD:W.makesIn K hU=true)
  (DE:W.keepIn K (.ref hU)=true)
  (hG:W.findIn K (.ref hU) "name"=some none)
  (jK:W.findIn K (.ref hU) "text"=some none)
  (iK:W.findIn K (.ref hU) "upper_name"=some none)
  (iL:W.findIn K (.ref hU) "lower_name"=some none)
  (AI:W.plainGet K hV Str.empty=true)
  (AJ:W.hasDictIn K hV=true)
  (AK:W.plainOver K hV=true)
  (AL:W.findIn K (.ref hV) "__setattr__"=some (some (.builtin "object.__setattr__")))
  (AM:W.makesIn K hV=true)
  (AN:W.keepIn K (.ref hV)=true)
  (iZ:W.findIn K (.ref hV) "name"=some none)
  (kl:W.findIn K (.ref hV) "file"=some none)
  (jM:W.findIn K (.ref hV) "puts"=some none)
  (jN:W.findIn K (.ref hV) "cuts"=some none)
  (i5:W.findIn K (.ref hV) "other"=some none)
  (AO:W.plainGet K ie Str.empty=true)
  (AQ:W.hasDictIn K ie=true)
  (AR:W.plainOver K ie=true)
  (AS:W.findIn K (.ref ie) "__setattr__"=some (some (.builtin "object.__setattr__")))
  (AU:W.makesIn K ie=true)
  (AV:W.keepIn K (.ref ie)=true)
  (jw:W.findIn K (.ref ie) "ahead"=some none)
  (iu:W.findIn K (.ref ie) "lines"=some none)
  (DG:W.plainGet K gq Str.empty=true)
  (DH:W.hasDictIn K gq=true)
  (DI:W.plainOver K gq=true)
  (DJ:W.findIn K (.ref gq) "__setattr__"=some (some (.builtin "object.__setattr__")))
  (DK:W.makesIn K gq=true)
  (DL:W.keepIn K (.ref gq)=true)
  (i6:W.findIn K (.ref gq) "made"=some none)
  (jd:W.findIn K (.ref gq) "needs"=some none)
  (iB:W.findIn K (.ref gq) "held"=some none)
  (pF:W.nsIn K mainGlobals "PatchError"=some (some (.ref lU)))
  (uL:W.nsIn K mainGlobals "BadName"=some (some (.ref jA)))
  (qL:W.nsIn K mainGlobals "NameTaken"=some (some (.ref jr)))
  (uM:W.nsIn K mainGlobals "NoStore"=some (some (.ref iU)))
  (uN:W.nsIn K mainGlobals "NoPatch"=some (some (.ref jV)))
  (xy:W.nsIn K mainGlobals "NoLine"=some (some (.ref ox)))
  (qM:W.nsIn K mainGlobals "Unsettled"=some (some (.ref lA)))
  (DN:W.nsIn K mainGlobals "Same"=some (some (.ref uC)))
  (AW:W.nsIn K mainGlobals "Leant"=some (some (.ref sY)))
  (pG:W.nsIn K mainGlobals "NAME_SIGNS"=some (some (.str (Str.ofString "abcdefghijklmnopqrstuvwxyz0123456789") nN)))
  (nz:W.nsIn K mainGlobals "LONGEST_NAME"=some (some (.int 12 lV)))
  (Lu:W.nsIn K mainGlobals "len"=some none)
  (DO:W.nsIn K mainGlobals "range"=some none)
  (Lv:W.nsIn K mainGlobals "max"=some none)
  (qN:W.nsIn K mainGlobals "isinstance"=some none)
  (Lw:W.nsIn K mainGlobals "int"=some none)
  (GG:W.nsIn K mainGlobals "bool"=some none)
  (GH:W.nsIn K mainGlobals "list"=some none)
  (DP:W.nsIn K mainGlobals "tuple"=some none)
  (Lx:W.nsIn K mainGlobals "str"=some none)
  (uO:W.nsIn K mainGlobals "reversed"=some none)
  (AX:W.nsIn K mainGlobals "sorted"=some none)
  (Ly:W.nsIn K mainGlobals "set"=some none)
  (sU:W.nsIn K mainGlobals "enumerate"=some none)
  (qO:W.nsIn K mainGlobals "ValueError"=some none)
  (pH:W.excIn K lU [.type "ValueError",.type "Exception",.type "BaseException",.type "object"] "ValueError.__new__"=true)
  (uP:W.excIn K jA [.type "ValueError",.type "Exception",.type "BaseException",.type "object"] "ValueError.__new__"=true)
  (qP:W.excIn K jr [.type "ValueError",.type "Exception",.type "BaseException",.type "object"] "ValueError.__new__"=true)
  (uQ:W.excIn K iU [.type "ValueError",.type "Exception",.type "BaseException",.type "object"] "ValueError.__new__"=true)
  (uR:W.excIn K jV [.type "ValueError",.type "Exception",.type "BaseException",.type "object"] "ValueError.__new__"=true)
  (xA:W.excIn K ox [.type "ValueError",.type "Exception",.type "BaseException",.type "object"] "ValueError.__new__"=true)
  (qQ:W.excIn K lA [.type "ValueError",.type "Exception",.type "BaseException",.type "object"] "ValueError.__new__"=true)
  (DQ:W.excIn K uC [.type "ValueError",.type "Exception",.type "BaseException",.type "object"] "ValueError.__new__"=true)
  (AY:W.excIn K sY [.type "ValueError",.type "Exception",.type "BaseException",.type "object"] "ValueError.__new__"=true) :
  ∃fd:FuncData,(∀(s:Shared)(v:Value),BindsTo s fd ⟨[v],[]⟩ [("script",v)])∧∀base:Heap,K.In base→base.Ns mainGlobals mg→ip l.prog w K mg base mU 20 fa fd ["script"] (Hr K):=by
 obtain⟨m0,d0,F0⟩:=h0
 obtain⟨m1,d1,F1⟩:=h1
 obtain⟨m2,d2,F2⟩:=h2
 obtain⟨m3,d3,F3⟩:=h3
 obtain⟨m4,d4,F4⟩:=h4
 obtain⟨m5,d5,F5⟩:=h5
 obtain⟨m6,d6,F6⟩:=h6
 obtain⟨m7,d7,F7⟩:=h7
 obtain⟨m8,d8,F8⟩:=h8
 obtain⟨m9,d9,F9⟩:=h9
 obtain⟨m10,d10,F10⟩:=U9
 obtain⟨m11,d11,F11⟩:=TX
 obtain⟨m12,d12,F12⟩:=YN
 obtain⟨m13,d13,F13⟩:=YO
 obtain⟨m14,d14,F14⟩:=YQ
 obtain⟨m15,d15,F15⟩:=YR
 obtain⟨m16,d16,F16⟩:=YS
 obtain⟨m17,d17,F17⟩:=YT
 obtain⟨m18,d18,F18⟩:=YU
 obtain⟨m19,d19,F19⟩:=YV
 obtain⟨m20,d20,F20⟩:=U_
 obtain⟨m21,d21,F21⟩:=TY
 obtain⟨m22,d22,F22⟩:=YW
 obtain⟨m23,d23,F23⟩:=YX
 obtain⟨m24,d24,F24⟩:=YY
 obtain⟨m25,d25,F25⟩:=YZ
 obtain⟨m26,d26,F26⟩:=Y0
 obtain⟨m27,d27,F27⟩:=Y1
 obtain⟨m28,d28,F28⟩:=Y2
 obtain⟨m29,d29,F29⟩:=Y3
 obtain⟨m30,d30,F30⟩:=Y4
 obtain⟨m31,d31,F31⟩:=Y5
 obtain⟨m32,d32,F32⟩:=Y6
 obtain⟨Zt,d33,F33⟩:=Y7
 obtain⟨Zu,d34,F34⟩:=Y8
 obtain⟨Zv,d35,F35⟩:=Y9
 obtain⟨m36,d36,F36⟩:=Y_
 obtain⟨m37,d37,F37⟩:=Za
 obtain⟨Zw,d38,F38⟩:=Zb
 obtain⟨m39,d39,F39⟩:=Zc
 obtain⟨m40,d40,F40⟩:=Va
 obtain⟨m41,d41,F41⟩:=T1
 obtain⟨m42,d42,F42⟩:=Zd
 obtain⟨m43,d43,F43⟩:=Ze
 obtain⟨m44,d44,F44⟩:=Zf
 obtain⟨m45,d45,F45⟩:=Zg
 obtain⟨m46,d46,F46⟩:=Zh
 obtain⟨m47,d47,F47⟩:=Zi
 obtain⟨m48,d48,F48⟩:=Zj
 obtain⟨m49,d49,F49⟩:=Zk
 obtain⟨m50,d50,F50⟩:=Vb
 obtain⟨m51,d51,F51⟩:=T2
 obtain⟨m52,d52,F52⟩:=Zl
 obtain⟨m53,d53,F53⟩:=Zm
 obtain⟨m54,d54,F54⟩:=Zn
 obtain⟨m55,d55,F55⟩:=Zo
 obtain⟨m56,d56,F56⟩:=Zp
 obtain⟨m57,d57,F57⟩:=Zq
 obtain⟨m58,d58,F58⟩:=Zr
 have e:=Ys.symm.trans (aan X G m32)
 cases e
 have T:Txt mg:=⟨aaR X G Lu,aaR X G DO,aaR X G Lv,aaR X G qN,aaR X G Lw,aaR X G GG,aaR X G GH,aaR X G DP,aaR X G Lx,aaR X G uO,aaR X G AX,aaR X G Ly,aaR X G sU,aaR X G qO⟩
 have O:Ok K mg (Ad.mk f0 d0 f1 d1 f2 d2 f3 d3 f33 d33 f34 d34 f4 d4 f5 d5 f6 d6 f7 d7 f8 d8 f9 d9 f10 d10 f11 d11 f12 d12 f13 d13 f14 d14 f35 d35 f36 d36 f37 d37 f15 d15 f16 d16 f17 d17 f18 d18 f19 d19 f38 d38 f39 d39 f40 d40 f41 d41 f42 d42 f43 d43 f44 d44 f45 d45 f46 d46 f47 d47 f48 d48 f49 d49 f50 d50 f51 d51 f52 d52 f53 d53 f54 d54 f55 d55 f56 d56 f57 d57 f58 d58 f20 d20 f21 d21 f22 d22 f23 d23 f24 d24 f25 d25 f26 d26 f27 d27 f28 d28 f29 d29 f30 d30 f31 d31 hU hV ie gq lU jA jr iU jV ox lA uC sY nN lV ()):=⟨⟨F0,F0.bd,aan X G m0⟩,⟨F1,F1.bd,aan X G m1⟩,⟨F2,F2.bd,aan X G m2⟩,⟨F3,F3.bd,aan X G m3⟩,⟨F33,F33.bd,Zt⟩,⟨F34,F34.bd,Zu⟩,⟨F4,F4.bd,aan X G m4⟩,⟨F5,F5.bd,aan X G m5⟩,⟨F6,F6.bd,aan X G m6⟩,⟨F7,F7.bd,aan X G m7⟩,⟨F8,F8.bd,aan X G m8⟩,⟨F9,F9.bd,aan X G m9⟩,⟨F10,F10.bd,aan X G m10⟩,⟨F11,F11.bd,aan X G m11⟩,⟨F12,F12.bd,aan X G m12⟩,⟨F13,F13.bd,aan X G m13⟩,⟨F14,F14.bd,aan X G m14⟩,⟨F35,F35.bd,Zv⟩,⟨F36,F36.bd,m36⟩,⟨F37,F37.bd,m37⟩,⟨F15,F15.bd,aan X G m15⟩,⟨F16,F16.bd,aan X G m16⟩,⟨F17,F17.bd,aan X G m17⟩,⟨F18,F18.bd,aan X G m18⟩,⟨F19,F19.bd,aan X G m19⟩,⟨F38,F38.bd,Zw⟩,⟨F39,F39.bd,m39⟩,⟨F40,F40.bd,m40⟩,⟨F41,F41.bd,m41⟩,⟨F42,F42.bd,m42⟩,⟨F43,F43.bd,m43⟩,⟨F44,F44.bd,m44⟩,⟨F45,F45.bd,m45⟩,⟨F46,F46.bd,m46⟩,⟨F47,F47.bd,m47⟩,⟨F48,F48.bd,m48⟩,⟨F49,F49.bd,m49⟩,⟨F50,F50.bd,m50⟩,⟨F51,F51.bd,m51⟩,⟨F52,F52.bd,m52⟩,⟨F53,F53.bd,m53⟩,⟨F54,F54.bd,m54⟩,⟨F55,F55.bd,m55⟩,⟨F56,F56.bd,m56⟩,⟨F57,F57.bd,m57⟩,⟨F58,F58.bd,m58⟩,⟨F20,F20.bd,aan X G m20⟩,⟨F21,F21.bd,aan X G m21⟩,⟨F22,F22.bd,aan X G m22⟩,⟨F23,F23.bd,aan X G m23⟩,⟨F24,F24.bd,aan X G m24⟩,⟨F25,F25.bd,aan X G m25⟩,⟨F26,F26.bd,aan X G m26⟩,⟨F27,F27.bd,aan X G m27⟩,⟨F28,F28.bd,aan X G m28⟩,⟨F29,F29.bd,aan X G m29⟩,⟨F30,F30.bd,aan X G m30⟩,⟨F31,F31.bd,aan X G m31⟩,⟨Dz,DA,DB,DC⟩,⟨DD,Zt.at_,Zt.fn,DE⟩,aan X G Dx,hG,jK,iK,iL,⟨AI,AJ,AK,AL⟩,⟨AM,Zu.at_,Zu.fn,AN⟩,aan X G AG,iZ,kl,jM,jN,i5,⟨AO,AQ,AR,AS⟩,⟨AU,Zv.at_,Zv.fn,AV⟩,aan X G AH,jw,iu,⟨DG,DH,DI,DJ⟩,⟨DK,Zw.at_,Zw.fn,DL⟩,aan X G Dy,i6,jd,iB,⟨aan X G pF,pH⟩,⟨aan X G uL,uP⟩,⟨aan X G qL,qP⟩,⟨aan X G uM,uQ⟩,⟨aan X G uN,uR⟩,⟨aan X G xy,xA⟩,⟨aan X G qM,qQ⟩,⟨aan X G DN,DQ⟩,⟨aan X G AW,AY⟩,aan X G pG,aan X G nz,True.intro⟩
 refine⟨d32,fun s v=>?_,fun base _ _=>PV F32 T O⟩
 obtain⟨_,_,_,_,_,_,_,_,_,rfl,_,_⟩:=F32.ex
 exact .of_eq rfl
theorem walk{l:W.OpenLaw}{q:Program}{loose:List Str}{XP:(Qqx)→Heap→Prop}{YP:World→Heap→Prop}{d:DefRec}{K:Params→Qqy}(hn:l.most=some 63)(SU:d.params.defaults=[])
  (hY:∀(w:World)(h:Heap),YP w h→(K w.params).In h)
  (F:∀(w:World)(mg:Qqx)(fa:Addr)(h:Heap),(K w.params).In h→h.Ns mainGlobals mg→mg d.name=some (.ref fa)→
   ∃fd:FuncData,(∀(s:Shared)(u:Value),BindsTo s fd ⟨[u],[]⟩ [("script",u)])∧∀base:Heap,(K w.params).In base→base.Ns mainGlobals mg→ip l.prog w (K w.params) mg base mU 20 fa fd ["script"] (Hr (K w.params))) :
  W.WalkO q loose XP YP l.row.toRowW d [] (fun f vs=>PySem.call f vs):=
 L2.L3 (n:=63) (k:=20) (x:="script") (CX:=fun _=>mU) (sp:=fun w=>Hr (K w.params)) hn (by decide) SU ⟨rfl,by decide,by decide⟩ hY F (fun _ _ a ns hl _ hS=>⟨a,ns,rfl,hS,hl,fun _=>rfl⟩) fun _ _ _ _ _ z=>z
end PK
open PySem PySem.W PyProof.Rows
theorem PySem.Challenge.cw_patchkin_k11_whole_there_and_back_holds : PySem.Challenge.rw_patchkin_k11_whole_there_and_back.Holds := by
 w_on;o_law;k_head;(case hw=>w_witness2)
 k_fill
 refine PK.walk (l:=PySem.Challenge.rw_patchkin_k11_whole_there_and_back) rfl rfl (fun w h Y=>PySem.W.kIn_of Y) ?F
 case F=>
  intro w mg fa h KX G SV
  refine' PK.all_mk KX G SV ?zqDx ?zqAG ?zqAH ?zqDy ?zqh0 ?zqh1 ?zqh2 ?zqh3 ?zqh4 ?zqh5 ?zqh6 ?zqh7 ?zqh8 ?zqh9 ?zqU9 ?zqTX ?zqYN ?zqYO ?zqYQ ?zqYR ?zqYS ?zqYT ?zqYU ?zqYV ?zqU_ ?zqTY ?zqYW ?zqYX ?zqYY ?zqYZ ?zqY0 ?zqY1 ?zqY2 ?zqY3 ?zqY4 ?zqY5 ?zqY6 ?zqY7 ?zqY8 ?zqY9 ?zqY_ ?zqZa ?zqZb ?zqZc ?zqVa ?zqT1 ?zqZd ?zqZe ?zqZf ?zqZg ?zqZh ?zqZi ?zqZj ?zqZk ?zqVb ?zqT2 ?zqZl ?zqZm ?zqZn ?zqZo ?zqZp ?zqZq ?zqZr ?zqDz ?zqDA ?zqDB ?zqDC ?zqDD ?zqDE ?zqhG ?zqjK ?zqiK ?zqiL ?zqAI ?zqAJ ?zqAK ?zqAL ?zqAM ?zqAN ?zqiZ ?zqkl ?zqjM ?zqjN ?zqi5 ?zqAO ?zqAQ ?zqAR ?zqAS ?zqAU ?zqAV ?zqjw ?zqiu ?zqDG ?zqDH ?zqDI ?zqDJ ?zqDK ?zqDL ?zqi6 ?zqjd ?zqiB ?zqpF ?zquL ?zqqL ?zquM ?zquN ?zqxy ?zqqM ?zqDN ?zqAW ?zqpG ?zqnz ?zqLu ?zqDO ?zqLv ?zqqN ?zqLw ?zqGG ?zqGH ?zqDP ?zqLx ?zquO ?zqAX ?zqLy ?zqsU ?zqqO ?zqpH ?zquP ?zqqP ?zquQ ?zquR ?zqxA ?zqqQ ?zqDQ ?zqAY
  (case zqDx|zqAG|zqAH|zqDy=>k_is)
  (case zqh0|zqh1|zqh2|zqh3|zqh4|zqh5|zqh6|zqh7|zqh8|zqh9|zqU9|zqTX|zqYN|zqYO|zqYQ|zqYR|zqYS|zqYT|zqYU|zqYV|zqU_|zqTY|zqYW|zqYX|zqYY|zqYZ|zqY0|zqY1|zqY2|zqY3|zqY4|zqY5|zqY6=>refine' L2.R0 ?a ?l ?c ?k;(case a=>k_is);(case l=>k_is);(case c=>k_is);(case k=>k_is))
  (case zqY7|zqY8|zqY9|zqY_|zqZa|zqZb|zqZc|zqVa|zqT1|zqZd|zqZe|zqZf|zqZg|zqZh|zqZi|zqZj|zqZk|zqVb|zqT2|zqZl|zqZm|zqZn|zqZo|zqZp|zqZq|zqZr=>refine' L2.R1 ?a ?i ?l ?c ?k;(case a=>k_is);(case i=>k_is);(case l=>k_is);(case c=>k_is);(case k=>k_is))
  (case zqDz|zqDA|zqDB|zqDC|zqDD|zqDE|zqhG|zqjK|zqiK|zqiL|zqAI|zqAJ|zqAK|zqAL|zqAM|zqAN|zqiZ|zqkl|zqjM|zqjN|zqi5|zqAO|zqAQ|zqAR|zqAS|zqAU|zqAV|zqjw|zqiu|zqDG|zqDH|zqDI|zqDJ|zqDK|zqDL|zqi6|zqjd|zqiB|zqpF|zquL|zqqL|zquM|zquN|zqxy|zqqM|zqDN|zqAW|zqpG|zqnz|zqLu|zqDO|zqLv|zqqN|zqLw|zqGG|zqGH|zqDP|zqLx|zquO|zqAX|zqLy|zqsU|zqqO=>k_is)
  (case zqpH|zquP|zqqP|zquQ|zquR|zqxA|zqqQ|zqDQ|zqAY=>k_exc)
