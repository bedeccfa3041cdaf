"""Every example that the document gives, in its order."""

import unittest

from tests.examples import run_examples

# The texts stand as in the document; names that were set once stay set.
A5 = r"""
>>> from guardbooks.heaps import heap_error
>>> pair = ((1, None), (None,), ())
>>> [heap_error(value) for value in (pair, (), ((),) * 41, [()], ((), None), ((0, 0, 0, 0),), ((1,),), ((None, True),), ((), (0, 2)), ((7,), 0))]
[None, None, 'form', 'form', ('cell', 1), ('cell', 0), ('field', 0, 0), ('field', 0, 1), ('field', 1, 1), ('cell', 1)]
"""

A7 = r"""
>>> from guardbooks.standings import colour_of, standing_error, start
>>> first = (pair + ((),), ("white", "white", "white", "free"), ((0, None),), (False,))
>>> grey = (first[0], (1, "white", "black", "free"), ((0, 1), (None,)), (True, False))
>>> [standing_error(value) for value in (first, grey, first[:3], (((3,),),) + first[1:], first[:1] + (("white",) * 3,) + first[2:])]
[None, None, 'form', ('heap', ('field', 0, 0)), 'marks']
>>> [standing_error(first[:1] + (marks,) + first[2:]) for marks in ((2, "white", "white", "free"), ("white", True, "white", "free"), ("white", "white", 0, "free"), ("free", "white", "white", "free"), ("white", "free", 0, "free"))]
[('mark', 0), ('mark', 1), ('mark', 2), ('free', 0), ('mark', 2)]
>>> [standing_error(first[:2] + (hands,) + first[3:]) for hands in ((), ((),), ((0, 4),), ((3, None),), ((0,), (1,)), [(0,)], ((9,), ()))]
['hands', ('hand', 0), ('room', 0, 1), ('free', 3), 'looked', 'hands', ('hand', 1)]
>>> standing_error(first[:3] + ((0,),)), standing_error((first[0], ("white", "free", "white", "free")) + first[2:])
(('looked', 0), ('free', 1))
"""

A8 = r"""
>>> start(pair, ((0, None),), 1) == first, start((), ((None,),), 0), start((), ((None, None),), 2)[0]
(True, ((), (), ((None,),), (False,)), ((), ()))
>>> [colour_of(grey, cell) for cell in range(4)], [colour_of(first, cell) for cell in (0, 3)]
([1, 0, 2, None], [0, None])
>>> start(((1,),), ((None,),), 0)
raises BadHeap(('field', 0, 0))
>>> start(pair, ((0,),), 38)
raises Unfit()
>>> start(pair, ((0,), (3,)), 1)
raises BadStanding(('free', 3))
"""

A9 = r"""
>>> from guardbooks.reaching import reached, way_to
>>> reached(first), [way_to(first, cell) for cell in range(4)]
((0, 1), [(0, 0), (0, 0, 0), None, None])
>>> ring = (((1, 2), (0,), (2, None, 1)), ("white",) * 3, ((None, 2), (None,)), (False, False))
>>> reached(ring), way_to(ring, 2), way_to(ring, 1), way_to(ring, 0)
((0, 1, 2), (0, 1), (0, 1, 2), (0, 1, 2, 0))
>>> reached((ring[0], ring[1], ((1,),), (True,))), reached((ring[0], ring[1], ((None,),), (True,)))
((0, 1, 2), ())
"""

B2 = r"""
>>> from guardbooks.books import book_error, entries, is_entry, plain_book, with_entry, without
>>> e, f, w = ((), (), ()), (False, False, False), ("white", "white")
>>> plain_book(True, False) == ((e, e), (f, f), w, True, False), book_error(plain_book(False, True))
(True, None)
>>> [book_error(value) for value in (((e, e), (f, f), w, True), [(e, e), (f, f), w, True, False], ((e, e), (f,), w, True, False), (e, (f, f), w, True, False), None)]
['form', 'form', 'form', 'form', 'form']
>>> [book_error(((e, ((), guard, ())), (f, f), w, True, False)) for guard in (("new",), ("again", "new", "old"), ("old", "new"), ("new", "new"), ["new"], ("New",), None)]
[None, None, ('write', 1, 1), ('write', 1, 1), ('write', 1, 1), ('write', 1, 1), ('write', 1, 1)]
>>> [book_error(value) for value in (((e, e), (f, (False, False, 0)), w, True, False), ((e, e), (f, f), ("black", "green"), True, False), ((e, e), (f, f), w, 1, False), ((e, e), (f, f), w, True, None))]
[('read', 1, 2), ('make', 1), 'last', 'pieces']
"""

B3 = r"""
>>> from guardbooks.knownbooks import baker, dijkstra, hybrid, steele, yuasa
>>> entries(plain_book(False, True)), entries(plain_book(True, False)), entries(yuasa(False))
((), (('last',),), (('make', 1), ('write', 1, 0, 'old'), ('write', 1, 1, 'old'), ('write', 1, 2, 'old')))
>>> some = with_entry(with_entry(plain_book(False, False), ("write", 0, 2, "old")), ("write", 0, 2, "again"))
>>> some[0][0], some == with_entry(some, ("write", 0, 2, "old")), without(without(some, ("write", 0, 2, "old")), ("write", 0, 2, "again")) == plain_book(False, False)
(((), (), ('again', 'old')), True, True)
>>> with_entry(plain_book(False, False), ("make", 0))[2], with_entry(((e, e), (f, f), ("grey", "white"), False, False), ("make", 0))[2], without(yuasa(True), ("make", 1)) == without(without(yuasa(True), ("make", 1)), ("last",))
(('black', 'white'), ('grey', 'white'), True)
>>> [is_entry(value) for value in (("last",), ("make", 1), ("read", 0, 2), ("write", 1, 2, "old"), ("make", True), ("write", 1, 3, "old"), ("write", 1, 2), ["last"], "last")]
[True, True, True, True, False, False, False, False, False]
"""

B4 = r"""
>>> from guardbooks.booktexts import book_text, entry_text, read_book, read_entry
>>> [entry_text(entry) for entry in (("last",), ("make", 1), ("read", 0, 2), ("write", 1, 0, "again"))], read_entry("write looked white again")
(['last', 'make looked', 'read unlooked black', 'write looked white again'], ('write', 1, 0, 'again'))
>>> book_text(yuasa(False)), book_text(plain_book(True, True)), book_text(plain_book(False, False))
('make looked black\nwrite looked white old\nwrite looked grey old\nwrite looked black old\n', 'last\npieces\n', '')
>>> read_book("write looked black old\nwrite looked white old\nmake looked black\nwrite looked grey old") == yuasa(False), read_book("pieces\nlast") == plain_book(True, True)
(True, True)
>>> read_entry("make looked black")
raises BadText(0)
>>> read_book("last\nwrite looked black  old\n")
raises BadText(1)
>>> read_book("make looked grey\nlast\nmake looked black")
raises BadText(2)
>>> read_book("\n")
raises BadText(0)
>>> read_book("make looked white")
raises BadText(0)
"""

B5 = r"""
>>> dijkstra(False)[0], dijkstra(True)[0][1], dijkstra(False)[1:] == plain_book(True, False)[1:], steele(True)[0][0]
((((), (), ('new',)), ((), (), ('new',))), ((), ('new',), ('new',)), True, ((), ('again',), ('again',)))
>>> baker(True)[0], baker(False)[1], baker(False)[2], hybrid(False)[0], hybrid(True)[0][0], hybrid(False)[2]
((((), ('new',), ('new',)), ((), (), ())), ((False, False, False), (True, True, False)), ('white', 'black'), ((('old',), ('old',), ('new',)), (('old',), ('old',), ())), (('old',), ('new', 'old'), ('new',)), ('black', 'black'))
>>> from guardbooks.safety import is_safe
>>> five = [maker(False) for maker in (dijkstra, steele, yuasa, baker, hybrid)]
>>> [is_safe(book, 1) for book in five], [is_safe(book, 2) for book in five], is_safe(plain_book(True, False), 1)
([True, True, True, True, True], [True, True, False, True, True], False)
"""

C2 = r"""
>>> from guardbooks.deeds import deed_error
>>> from guardbooks.standings import start
>>> first = start(((1, None), (None,), ()), ((0, None),), 1)
>>> [deed_error(first, value) for value in (("look", 0), ("drop", 0, 1), ("copy", 0, 0, 1), ("make", 0, 1, 3), ("read", 0, 0, 1, 0), ("write", 0, 0, 1, None), ("write", 0, 0, 0, 1))]
[None, None, None, None, None, None, None]
>>> [deed_error(first, value) for value in (("scan", 0), ("scan", 4), ("look", 1), ("drop", 0, 2), ("copy", 0, 0, 2), ("make", 0, 0, 4), ("read", 0, 1, 0, 0), ("read", 0, 0, 2, 0))]
['closed', 'cell', 'hand', 'room', 'room', 'fields', 'empty', 'field']
>>> [deed_error(first, value) for value in (("look", True), ("look",), ["look", 0], ("read", 0, 0, 0, None), ("write", 0, 0, None, 0), ("see", 0), ("drop", 0, -1), None, ("make", 5, 9, 9))]
['form', 'form', 'form', 'form', 'form', 'form', 'form', 'form', 'hand']
"""

C3 = r"""
>>> from guardbooks.books import plain_book
>>> from guardbooks.knownbooks import dijkstra, yuasa
>>> from guardbooks.moving import after, guards_asked, led
>>> bare, bits = plain_book(False, False), plain_book(False, True)
>>> seen = after(bare, first, ("look", 0))
>>> seen[1:], led(bare, seen, (("scan", 0),))[1], led(bits, seen, (("scan", 0),))[1], led(bits, seen, (("scan", 0), ("scan", 0)))[1]
(((0, 'white', 'white', 'free'), ((0, None),), (True,)), ('black', 0, 'white', 'free'), (1, 0, 'white', 'free'), ('black', 0, 'white', 'free'))
>>> hidden = led(bare, seen, (("read", 0, 0, 0, 1), ("write", 0, 0, 0, None), ("scan", 0)))
>>> hidden == (((None, None), (None,), (), ()), ("black", "white", "white", "free"), ((0, 1),), (True,))
True
>>> led(yuasa(False), seen, (("read", 0, 0, 0, 1), ("write", 0, 0, 0, None), ("scan", 0)))[1]
('black', 0, 'white', 'free')
>>> late = (("scan", 0), ("scan", 1), ("make", 0, 1, 1), ("write", 0, 0, 1, 1))
>>> led(bare, seen, late)[0], led(bare, seen, late)[1], led(dijkstra(False), seen, late)[1]
(((1, 3), (None,), (), (None,)), ('black', 'black', 'white', 'white'), ('black', 'black', 'white', 0))
>>> led(bare, first, ()) == first, led(bare, first, (("make", 0, 1, 0), ("drop", 0, 0)))[:3]
(True, (((1, None), (None,), (), ()), ('white', 'white', 'white', 'white'), ((None, 3),)))
>>> after(bare, first, ("scan", 0))
raises Refused(('scan', 0))
>>> led(bare, seen, (("scan", 0), ("scan", 0)))
raises Refused(('scan', 0))
>>> led(bare, first, (("drop", 0, 0),) * 401)
raises TooMany(400)
"""

C4 = r"""
>>> before = led(bare, seen, (("read", 0, 0, 0, 1),))
>>> guards_asked(yuasa(False), before, ("write", 0, 0, 0, None)), guards_asked(yuasa(False), first, ("write", 0, 0, 0, None)), guards_asked(bare, before, ("write", 0, 0, 0, None))
((('write', 1, 1, 'old'),), (), ())
>>> black = led(bare, seen, late[:3])
>>> guards_asked(dijkstra(False), black, late[3]), guards_asked(dijkstra(False), seen, ("scan", 0))
((('write', 1, 2, 'new'),), ())
"""

C5 = r"""
>>> from guardbooks.deedtexts import deed_text, deeds_text, read_deed, read_deeds
>>> deed_text(("write", 0, 1, 0, None)), deeds_text((("look", 0), ("read", 0, 0, 0, 1))), deeds_text(())
('write 0 1 0 none', 'look 0\nread 0 0 0 1', 'none')
>>> read_deed("make 0 1 2"), read_deeds("scan 3\nwrite 0 1 0 2"), read_deeds("none")
(('make', 0, 1, 2), (('scan', 3), ('write', 0, 1, 0, 2)), ())
>>> read_deed("look 00")
raises BadText(0)
>>> read_deeds("look 0\nlook")
raises BadText(1)
>>> read_deeds("look 0\n")
raises BadText(1)
>>> read_deeds("")
raises BadText(0)
>>> read_deed("read 0 0 0 none")
raises BadText(0)
"""

D2 = r"""
>>> from guardbooks.books import plain_book
>>> from guardbooks.ending import finished, floating, is_over, last_look, lost, next_scans
>>> whole, parts, again = plain_book(False, False), plain_book(False, True), plain_book(True, False)
>>> first = (((1, 2), (2,), (), (0,), ()), ("white",) * 4 + ("free",), ((0,),), (False,))
>>> is_over(first), next_scans(first), finished(whole, first)[0], finished(parts, first)[0]
(False, (), (('look', 0), ('scan', 0), ('scan', 1)), (('look', 0), ('scan', 0), ('scan', 0), ('scan', 1)))
>>> end = finished(whole, first)[1]
>>> end == (first[0], ("black", "black", "black", "white", "free"), ((0,),), (True,)), finished(parts, first)[1] == end, is_over(end), finished(whole, end) == ((), end)
(True, True, True, True)
>>> two = (((1,), (None,), (3,), (None,)), ("white", 0, "white", "white"), ((0, None), (None, 2)), (True, False))
>>> next_scans(two), finished(whole, two)[0], finished(whole, two)[1] == (two[0], ("white", "black", "black", "black"), two[2], (True, True))
((1,), (('look', 1), ('scan', 1), ('scan', 2), ('scan', 3)), True)
"""

D3 = r"""
>>> hidden = (((None,), (2,), ()), ("black", "white", "white"), ((0, 1),), (True,))
>>> lost(whole, hidden), lost(again, hidden), last_look(whole, hidden) == hidden, last_look(again, hidden)[1]
((1, 2), (), True, ('black', 'black', 'black'))
>>> lost(whole, end), floating(whole, end), lost(again, finished(again, two)[1]), lost(whole, finished(whole, two)[1])
((), (), (), (0,))
>>> dropped = (((2,), (2,), ()), ("black", "black", "black"), ((1,),), (True,))
>>> floating(whole, dropped), floating(again, dropped), lost(whole, dropped)
((0,), (0,), ())
>>> lost(whole, two)
raises Unfit()
"""

D4 = r"""
>>> from guardbooks.sweeping import freed, swept
>>> freed(whole, end), swept(whole, end) == (((1, 2), (2,), (), (), ()), ("white",) * 3 + ("free",) * 2, ((0,),), (False,))
((3,), True)
>>> swept(again, hidden) == (hidden[0], ("white",) * 3, ((0, 1),), (False,)), freed(again, hidden)
(True, ())
>>> loose = (((), (2,), (None,)), ("black", "black", "white"), ((0,),), (True,))
>>> floating(whole, loose), freed(whole, loose), swept(whole, loose)
((1,), (2,), (((), (None,), ()), ('white', 'white', 'free'), ((0,),), (False,)))
>>> swept(whole, hidden)
raises Lost((1, 2))
>>> freed(whole, first)
raises Unfit()
"""

E2 = r"""
>>> from guardbooks.books import entries, plain_book, with_entry, without
>>> from guardbooks.knownbooks import baker, dijkstra, hybrid, steele, yuasa
>>> from guardbooks.safety import is_safe, starts_early, ways
>>> five = [maker(False) for maker in (dijkstra, steele, yuasa, baker, hybrid)]
>>> [ways(book, 1) for book in five], [ways(book, 2) for book in five], [starts_early(book) for book in five]
([('last',), ('last',), ('old',), ('read',), ('old',)], [('last',), ('last',), (), ('read',), ('old',)], [False, False, False, False, True])
>>> is_safe(plain_book(False, False), 1), is_safe(plain_book(True, False), 1), is_safe(without(dijkstra(False), ("write", 0, 2, "new")), 1), is_safe(without(dijkstra(False), ("write", 0, 2, "new")), 2)
(False, False, True, False)
>>> full = with_entry(with_entry(hybrid(False), ("read", 1, 0)), ("read", 1, 1))
>>> ways(full, 3), ways(full, 3) == ways(full, 2), ways(without(full, ("make", 1)), 2), ways((full[0], full[1], full[2], full[3], True), 2)
(('child', 'old', 'read'), True, (), ())
"""

E3 = r"""
>>> from guardbooks.leastbooks import fewest_added, is_least, least_books, least_part, needless
>>> needless(hybrid(False), 1), needless(hybrid(False), 2), needless(yuasa(False), 1), needless(dijkstra(False), 1), needless(dijkstra(False), 2), needless(baker(False), 4)
((('make', 0), ('write', 0, 0, 'old'), ('write', 0, 1, 'old')), (('make', 0),), (('write', 1, 2, 'old'),), (('write', 0, 2, 'new'),), (), (('read', 1, 0),))
>>> least_part(hybrid(False), 2) == without(hybrid(False), ("make", 0)), is_least(least_part(hybrid(False), 1), 1), is_least(dijkstra(True), 2), is_least(yuasa(True), 2)
(True, True, True, False)
>>> [len(least_books(hands, last, pieces)) for hands in (1, 2) for last in (False, True) for pieces in (False, True)], least_books(3, False, False) == least_books(2, False, False)
([3, 3, 2, 4, 6, 12, 4, 16], True)
>>> [entries(book) for book in least_books(1, False, False)]
[(('make', 1), ('read', 1, 1)), (('make', 1), ('read', 1, 0), ('write', 1, 1, 'old')), (('make', 1), ('write', 1, 0, 'old'), ('write', 1, 1, 'old'))]
>>> [len(fewest_added(book, hands)) for book, hands in ((plain_book(False, False), 1), (plain_book(False, False), 2), (plain_book(False, True), 2), (yuasa(False), 2), (hybrid(False), 4))]
[2, 3, 4, 2, 0]
>>> len(fewest_added(without(hybrid(False), ("write", 0, 0, "old")), 2)), fewest_added(without(dijkstra(False), ("last",)), 1), fewest_added(without(baker(False), ("make", 1)), 2)
(1, (('last',),), (('make', 1),))
>>> needless(plain_book(True, True), 1)
raises Unfit()
>>> least_part(yuasa(False), 2)
raises Unfit()
"""

F2 = r"""
>>> from guardbooks.losing import losing
>>> from guardbooks.losingjudge import losing_error
>>> losing(hybrid(False), 2), losing(yuasa(True), 1)
(None, None)
>>> run = losing(yuasa(False), 2)
>>> losing_error(yuasa(False), 2, run), len(run[0]) + run[2] <= 4, len(run[3]) <= 20, len(run[1])
(None, True, True, 2)
"""

F3 = r"""
>>> plain, made = plain_book(False, False), ((), ((None,),), 1, (("look", 0), ("make", 0, 0, 0)))
>>> losing_error(plain, 1, made), losing_error(dijkstra(False), 1, made), losing_error(plain, 2, made)
(None, 'kept', 'hands')
>>> [losing_error(plain, 1, value) for value in (made[:3], made[:3] + ([],), (((5,),),) + made[1:], made[:3] + ((("scan", 0),),), made[:3] + ((("make", 0, 0, 0),),), made[:3] + ((("look", 0), ("look", 0)),))]
['form', 'form', 'start', ('deed', 0), 'over', ('deed', 1)]
>>> hidden = (((None,), ()), ((0,), (0, 1)), 0, (("look", 0), ("scan", 0), ("write", 1, 0, 0, 1), ("drop", 1, 1), ("look", 1)))
>>> [losing_error(book, 2, hidden) for book in (plain, yuasa(False), hybrid(False), dijkstra(False), baker(False))]
[None, None, 'kept', 'kept', 'kept']
>>> taken = (((1,), ()), ((0, None),), 0, (("look", 0), ("read", 0, 0, 0, 1), ("write", 0, 0, 0, None), ("scan", 0)))
>>> [losing_error(book, 1, taken) for book in (plain, with_entry(plain, ("make", 1)), yuasa(False), baker(False), dijkstra(False), without(dijkstra(False), ("last",)))]
[None, None, 'kept', 'kept', 'kept', None]
"""

G2 = r"""
>>> from guardbooks.shields import broken, chain, chain_error, held_white, invariant, seen_white
>>> near = (((2,), (None, 2), (3,), ()), ("black", 1, "white", "white"), ((0, 1),), (True,))
>>> deep = (near[0], near[1], ((0, 3),), (True,))
>>> cut = (((2,), (2, None), (3,), ()), near[1], ((0, 1),), (True,))
>>> early = (((1,), (2,), ()), ("white",) * 3, ((0, None),), (False,))
>>> [(seen_white(standing), held_white(standing)) for standing in (near, deep, cut, early)]
[((2,), ()), ((2,), (3,)), ((2,), ()), ((), ())]
"""

G3 = r"""
>>> chain(near, 2), chain(near, 3), chain(cut, 2), chain(near, 0), chain(early, 1)
((1, 2), (1, 2, 3), None, None, None)
>>> [chain_error(near, 3, value) for value in ((1, 2, 3), (1, 2), [1, 2, 3], (3,), (0, 2, 3), (1, 0, 2, 3), (1, 3), (1, 2, True), (1, 3, 0), (1, 2, 2, 3))]
[None, 'end', 'form', 'form', ('mark', 0), ('mark', 1), ('field', 1), 'form', ('mark', 2), ('field', 2)]
>>> chain_error(cut, 2, (1, 2)), chain_error(near, 2, (1, 2))
(('field', 1), None)
"""

G4 = r"""
>>> [broken(way, near) for way in ("child", "last", "old", "read")], [broken(way, deep) for way in ("child", "last", "old", "read")]
([(), (2,), (), (2,)], [(3,), (2,), (), (2, 3)])
>>> [invariant(way, cut) for way in ("child", "last", "old", "read")], [invariant(way, early) for way in ("child", "last", "old", "read")]
([False, False, False, False], [True, True, True, True])
"""

H2 = r"""
>>> from guardbooks.counting import counts, left, out_of_use
>>> heap = ((1, 2), (2,), (), (0,), ())
>>> first = (heap, ("white",) * 4 + ("free",), ((0,),), (False,))
>>> left(first), out_of_use(first), left((heap, (1, 0, "white", "black", "free"), ((None,),), (True,))), out_of_use((heap, ("white",) * 4 + ("free",), ((None,),), (True,)))
((0, 0), (3,), (2, 2), (0, 1, 2, 3))
"""

H3 = r"""
>>> from guardbooks.books import plain_book
>>> from guardbooks.knownbooks import dijkstra, steele
>>> whole, parts = plain_book(False, False), plain_book(False, True)
>>> counts(whole, first, (("look", 0), ("scan", 0), ("scan", 1)))
(1, 2, 3, 2, 3, ())
>>> counts(parts, first, (("look", 0), ("scan", 0), ("scan", 0)))
(1, 2, 3, 2, 3, ())
>>> made = (("look", 0), ("scan", 0), ("scan", 1), ("make", 0, 0, 1), ("write", 0, 0, 0, 0))
>>> counts(whole, first, made), counts(dijkstra(False), first, made)
((1, 2, 3, 2, 3, ()), (1, 2, 3, 2, 3, ()))
>>> black = (((None,), ()), ("black", "white"), ((0, 1),), (True,))
>>> [counts(book, black, (("write", 0, 0, 0, 1),)) for book in (whole, dijkstra(False), steele(False))]
[(0, 0, 0, 0, 0, ()), (0, 0, 1, 0, 0, ((('write', 1, 2, 'new'), 1),)), (0, 0, 0, 1, 1, ((('write', 1, 2, 'again'), 1),))]
>>> counts(whole, first, (("scan", 0),))
raises Refused(('scan', 0))
"""

I2 = r"""
>>> from guardbooks.programs import program_error, programs_error
>>> from guardbooks.books import plain_book, with_entry
>>> from guardbooks.standings import start
>>> from guardbooks.weaving import kept, may_lose, unasked, woven
>>> unhook = (("read", 0, 0, 1), ("write", 0, 0, None))
>>> [program_error(value) for value in (unhook, (), (("make", 3, 0),) * 6, (("make", 3, 0),) * 7, list(unhook), (("read", 0, 3, 1),), (unhook[0], ("drop", None)), (("look", 0),))]
[None, None, None, 'form', 'form', ('line', 0), ('line', 1), ('line', 0)]
>>> pair = start(((1,), ()), ((0, None),), 0)
>>> [programs_error(pair, value) for value in ((unhook,), ((),), unhook, (unhook, ()), ((("drop", True),),))]
[None, None, 'form', 'form', ('program', 0, ('line', 0))]
"""

I3 = r"""
>>> bare = plain_book(False, False)
>>> woven(bare, pair, (unhook,)), may_lose(bare, pair, (unhook,))
(12, (('look', 0), ('read', 0, 0, 0, 1), ('write', 0, 0, 0, None), ('scan', 0)))
>>> may_lose(bare, pair, (unhook + (("drop", 1),),)) == may_lose(bare, pair, (unhook,))
True
>>> guarded = with_entry(bare, ("write", 1, 1, "old"))
>>> woven(guarded, pair, (unhook,)), may_lose(guarded, pair, (unhook,))
(10, None)
>>> let_go = (("read", 1, 0, 0), ("drop", 0))
>>> woven(bare, pair, (let_go,)), woven(bare, pair, (let_go[1:],)), may_lose(bare, pair, (let_go,)), woven(bare, pair, ((),))
(7, 7, None, 3)
"""

I4 = r"""
>>> kept(bare, pair, (unhook,)), kept(bare, pair, (let_go,)), kept(bare, pair, ((),))
((0, 0), (0, 2), (0, 0))
>>> unasked(guarded, pair, (unhook,)), unasked(guarded, pair, (let_go,)), unasked(bare, pair, (unhook,))
((), (('write', 1, 1, 'old'),), ())
"""

J2 = r"""
>>> from guardbooks.books import plain_book, with_entry
>>> from guardbooks.prices import cheapest, cheapest_error, prices_error, total
>>> shop = ((("last",), 4), (("make", 1), 1), (("read", 1, 1), 2), (("write", 1, 2, "new"), 3))
>>> [prices_error(value) for value in (shop, (), list(shop), (("last",), 4), ((("last",), -1),), ((("last",), True),), ((("last",),),), ((("write", 1, 3, "new"), 2),), ((("make", 1), 1), (("last",), 4)), ((("last",), 4), (("last",), 5)), ((("make", 1), 1), (("last",), 4), 7))]
[None, None, 'form', ('entry', 0), ('entry', 0), ('entry', 0), ('entry', 0), ('entry', 0), ('order', 1), ('order', 1), ('entry', 2)]
>>> bare = plain_book(False, False)
>>> asking = with_entry(with_entry(bare, ("read", 1, 1)), ("make", 1))
>>> total(bare, shop), total(asking, shop), total(bare, ()), total(plain_book(True, False), shop)
(0, 3, 0, 4)
>>> total(asking, shop[:2])
raises Unfit()
"""

J3 = r"""
>>> found = cheapest(shop, 1, False)
>>> total(found, shop), found in (asking, (asking[0], asking[1], ("white", "grey"), False, False))
(3, True)
>>> cheapest(shop, 2, False), cheapest((), 1, False), cheapest(shop[:3], 1, True)[4], total(cheapest(shop[:1] + shop[3:], 1, False), shop), cheapest(shop[:1] + shop[3:], 1, True)
(None, None, True, 7, None)
>>> more = shop + ((("write", 1, 2, "old"), 0),)
>>> total(cheapest(more, 1, False), more)
3
"""

J4 = r"""
>>> [cheapest_error(shop, 1, False, value) for value in (asking, bare, None, with_entry(asking, ("last",)), with_entry(asking, ("read", 1, 0)), asking[:4] + (True,))]
[None, 'safe', 'none', 'dear', ('price', ('read', 1, 0)), 'pieces']
>>> cheapest_error(shop, 2, False, None), cheapest_error(shop, 2, False, asking), cheapest_error(shop, 1, False, 7)
(None, 'safe', ('book', 'form'))
"""

K3 = r"""
>>> from guardbooks.knownbooks import yuasa
>>> from guardbooks.books import plain_book
>>> from guardbooks.yards import Yard
>>> y = Yard(yuasa(False), (), ((None, None),), 3)
>>> [y.make(0, 0, 1), y.make(0, 1, 0), y.write(0, 0, 0, 1), y.drop(0, 1)], y.standing
([1, 2, 3, 4], (((1,), (), ()), ('white', 'white', 'free'), ((0, None),), (False,)))
>>> y.due, y.mark(1), y.due, y.standing[1]
(('look', 0), 5, ('scan', 0), (0, 'white', 'free'))
>>> [y.read(0, 0, 0, 1), y.write(0, 0, 0, None)], y.standing[0], y.standing[1], y.standing[2]
([6, 7], ((None,), (), ()), (0, 'black', 'free'), ((0, 1),))
>>> y.mark(9), y.due, y.sweep(), y.freed, y.cycles, y.standing[1], y.standing[3]
(8, ('sweep',), 9, (), 1, ('white', 'white', 'free'), (False,))
>>> y.drop(0, 1), y.cycle(), y.freed, y.cycles, y.standing[1], y.make(0, 1, 2), y.standing[0]
(10, 11, (1,), 2, ('white', 'free', 'free'), 12, ((None,), (None, None), ()))
>>> z = y.twin()
>>> z == y, z.undo(), z.undo(), z.freed, z.cycles, z == y, y.version
(True, 11, 10, (), 1, False, 12)
>>> y.read(0, 0, 1, 1)
raises Refused(('read', 0, 0, 1, 1))
>>> y.scan(0)
raises Refused(('scan', 0))
>>> y.sweep()
raises Unfit()
>>> y.mark(0)
raises Unfit()
>>> Yard(yuasa(False), (), ((None, None),), 41)
raises Unfit()
>>> x = Yard(plain_book(False, False), (), ((None, None),), 3)
>>> [x.make(0, 0, 1), x.make(0, 1, 0), x.write(0, 0, 0, 1), x.drop(0, 1), x.look(0), x.read(0, 0, 0, 1), x.write(0, 0, 0, None), x.scan(0)], x.standing[1]
([1, 2, 3, 4, 5, 6, 7, 8], ('black', 'white', 'free'))
>>> x.sweep()
raises Lost((1,))
"""

K4 = r"""
>>> from guardbooks.yardlogs import log_text, read_log, yard_behind
>>> log_text(y.log[:7]), read_log(log_text(y.log)) == y.log, yard_behind(yuasa(False), (), ((None, None),), 3, y.log) == y
('make 0 0 1\nmake 0 1 0\nwrite 0 0 0 1\ndrop 0 1\nmark 1\nread 0 0 0 1\nwrite 0 0 0 none\n', True, True)
>>> y.log[7:], read_log("cycle\nsweep\nlook 0"), log_text(())
((('mark', 9), ('sweep',), ('drop', 0, 1), ('cycle',), ('make', 0, 1, 2)), (('cycle',), ('sweep',), ('look', 0)), '')
>>> read_log("mark 1\nmark 01\n")
raises BadText(1)
>>> yard_behind(yuasa(False), (), ((None,),), 3, (("make", 0, 0, 1), ("sweep",)))
raises BadLog(1)
>>> yard_behind(None, (), ((None,),), 3, ())
raises BadBook('form')
>>> v = yard_behind(yuasa(False), ((None,), ()), ((0,), (0, 1)), 0, (("look", 0), ("scan", 0), ("write", 1, 0, 0, 1), ("drop", 1, 1), ("look", 1)))
>>> v.due, v.standing[1]
(('sweep',), ('black', 'white'))
>>> v.sweep()
raises Lost((1,))
>>> from guardbooks.ending import lost
>>> from guardbooks.losing import losing
>>> run = losing(yuasa(False), 2)
>>> u = yard_behind(yuasa(False), run[0], run[1], run[2], run[3])
>>> u.due, lost(u.book, u.standing) != ()
(('sweep',), True)
"""

L1 = r"""
>>> from guardbooks.standings import start
>>> from guardbooks.standingtexts import read_standing, standing_text
>>> small = start(((1, None), (None,), ()), ((0, None),), 1)
>>> grey = (small[0], (1, "white", "black", "free"), ((0, 1), (None,)), (True, False))
>>> standing_text(small), standing_text(grey)
('cell white 1 -\ncell white -\ncell white\ncell free\nhand unlooked 0 -', 'cell grey1 1 -\ncell white -\ncell black\ncell free\nhand looked 0 1\nhand unlooked -')
>>> read_standing(standing_text(grey)) == grey, read_standing("hand looked -"), read_standing("cell black 0\nhand unlooked 0 0")
(True, ((), (), ((None,),), (True,)), (((0,),), ('black',), ((0, 0),), (False,)))
>>> read_standing("cell white 1\nhand looked")
raises BadStanding(('heap', ('field', 0, 0)))
>>> read_standing("cell grey1 -\nhand looked 0")
raises BadStanding(('mark', 0))
>>> read_standing("cell white")
raises BadStanding('hands')
>>> read_standing("hand looked -\ncell white")
raises BadText(1)
>>> read_standing("cell white 01\nhand looked -")
raises BadText(0)
>>> read_standing("cell white\nhand looked -\n")
raises BadText(2)
>>> read_standing("")
raises BadText(0)
"""

L2 = r"""
>>> from guardbooks.shells import Shell
>>> s = Shell()
>>> [s.say(line) for line in ("show", "drop 0 100", "yard 1 2 3", "make 0 0 1", "make 0 1 0", "write 0 0 0 1", "drop 0 1", "show", "due", "mark 1", "due")]
['no yard', 'what', 'version 0', 'version 1', 'version 2', 'version 3', 'version 4', 'cell white 1\ncell white\ncell free\nhand unlooked 0 -', 'look 0', 'version 5', 'scan 0']
>>> [s.say(line) for line in ("read 0 0 0 1", "write 0 0 0 none", "lost", "mark 9", "due", "show", "reached", "lost", "sweep", "version", "undo", "undo", "undo")]
['version 6', 'version 7', 'error Unfit', 'version 8', 'sweep', 'cell black -\ncell white\ncell free\nhand looked 0 1', '0 1', '1', 'error Lost', '8', 'version 7', 'version 6', 'version 5']
>>> [s.say(line) for line in ("drop 0 0", "mark 9", "floating", "cycle", "freed", "cycles", "floating", "show", "cycle", "freed", "show")]
['version 6', 'version 7', '0 1', 'version 8', 'none', '1', 'error Unfit', 'cell white 1\ncell white\ncell free\nhand unlooked - -', 'version 9', '0 1', 'cell free\ncell free\ncell free\nhand unlooked - -']
>>> [s.say(line) for line in ("safe 1", "entries", "with read looked grey", "with make looked", "safe 1", "safe 2", "with write unlooked black new", "safe 2", "safe 5", "entries")]
['none', 'none', 'ok', 'ok', 'read', 'none', 'ok', 'read', 'error Unfit', 'make looked; read looked grey; write unlooked black new']
>>> [s.say(line) for line in ("pieces", "safe 1", "safe 2", "without make looked", "safe 1", "with read", "with ", "book plain", "entries", "last", "entries", "book dijkstra pieces", "book", "drop 0 100", "look 00", "mark 0", 5)]
['ok', 'read', 'none', 'ok', 'none', 'error BadText', 'error BadText', 'ok', 'none', 'ok', 'last', 'ok', 'what', 'what', 'what', 'error Unfit', 'what']
>>> [s.say(line) for line in ("yard 5 1 1", "yard 1 1 41", "yard cell white 1\ncell white\ncell free\nhand unlooked 0", "due", "look 0", "version", "yard cell free\ncell white\nhand unlooked 1", "yard cell white\nhand looked 0", "yard", "yard ", "show")]
['error BadStanding', 'error Unfit', 'version 0', 'look 0', 'version 1', '1', 'error Unfit', 'error Unfit', 'what', 'error BadText', 'cell grey0 1\ncell white\ncell free\nhand looked 0']
"""

PROMISES = (
    "A5 A7 A8 A9 B2 B3 B4 B5 C2 C3 C4 C5 D2 D3 D4 E2 E3 F2 F3 "
    "G2 G3 G4 H2 H3 I2 I3 I4 J2 J3 J4 K3 K4 L1 L2").split()


class ExamplesTest(unittest.TestCase):

    def test_all_in_order(self):
        names = {}
        for promise in PROMISES:
            with self.subTest(promise=promise):
                run_examples(self, globals()[promise], names)


if __name__ == "__main__":
    unittest.main()
