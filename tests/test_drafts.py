"""Tests of [124] and [125]: undone changes, and drafts of a catalog."""

from formatrepair.catalogs import Catalog
from formatrepair.errors import DraftOpen, EmptyFormat, NothingToUndo, NotOpen, UnknownName

from support import Case
from test_catalogs import catalog_of, shown
from test_comparisons import ONE


class Own(Exception):
    """An error of the tests."""


def changing_calls(catalog):
    """Return calls that change a catalog or open or close a draft, right ones and wrong ones."""
    return [lambda: catalog.put("k", "a"), lambda: catalog.put(None, 7), lambda: catalog.put("x", "<x>"), lambda: catalog.remove("x"),
            lambda: catalog.remove(7), lambda: catalog.rename("x", "z"), lambda: catalog.rename(7, 7), catalog.undo,
            catalog.open_draft, catalog.keep, catalog.drop, lambda: catalog.in_draft(lambda draft: 1), lambda: entered(catalog)]


def entered(catalog):
    with catalog.draft() as draft:
        return draft


class Undo(Case):

    def assert_nothing_to_undo(self, catalog):
        before = shown(catalog)
        with self.assertRaises(NothingToUndo):
            catalog.undo()
        self.assertEqual(shown(catalog), before)

    def test_each_change_is_taken_back(self):
        catalog = Catalog(ONE)
        states = []
        for change in (lambda: catalog.put("x", "a"), lambda: catalog.put("y", "<x>"), lambda: catalog.put("x", "b"),
                       lambda: catalog.put("x", "b"), lambda: catalog.rename("x", "z"), lambda: catalog.remove("y"),
                       lambda: catalog.in_draft(lambda draft: draft.put("p", "ab")), lambda: catalog.open_draft().keep()):
            states.append(shown(catalog))
            self.assertIsNone(change())
        while states:
            self.assertIsNone(catalog.undo())
            self.assertEqual(shown(catalog), states.pop())
        self.assert_nothing_to_undo(catalog)

    def test_what_is_undone_is_gone(self):
        catalog = catalog_of("x a", "x b", "x ab")
        catalog.undo()
        catalog.put("y", "a")
        catalog.undo()
        self.assertEqual(shown(catalog), {"x": "b"})
        catalog.undo()
        catalog.undo()
        self.assertEqual(shown(catalog), {})
        self.assert_nothing_to_undo(catalog)

    def test_calls_that_raise_are_no_changes(self):
        catalog = catalog_of("x a")
        for call in (lambda: catalog.put("x", "<x>"), lambda: catalog.remove("q"), lambda: catalog.rename("x", "x"), lambda: catalog.keep()):
            self.assertRaises(Exception, call)
        catalog.cost("x", "x")
        catalog.undo()
        self.assert_nothing_to_undo(catalog)

    def test_a_hundred_changes(self):
        catalog = Catalog(ONE)
        for number in range(100):
            catalog.put("x", "a" * (number % 7) + "|" * (number % 3))
        for _ in range(100):
            catalog.undo()
        self.assertEqual(catalog.names(), [])
        self.assert_nothing_to_undo(catalog)

    def test_one_more_change(self):
        for changes in (101, 102, 150, 205):
            catalog = Catalog(ONE)
            texts = ["a" * (number % 11) + "|" * (number % 3) for number in range(changes)]
            for text in texts:
                catalog.put("x", text)
            for number in range(100):
                catalog.undo()
                self.assertEqual(shown(catalog), {"x": texts[changes - number - 2]})
            self.assert_nothing_to_undo(catalog)

    def test_the_eldest_is_dropped_for_good(self):
        catalog = Catalog(ONE)
        for number in range(101):
            catalog.put("x", "a" * (number % 11))
        for _ in range(50):
            catalog.undo()
        for _ in range(20):
            catalog.put("y", "b")
        for _ in range(70):
            catalog.undo()
        self.assertEqual(shown(catalog), {"x": ""})
        self.assert_nothing_to_undo(catalog)

    def test_kept_drafts_count_too(self):
        for keep in (lambda catalog: catalog.in_draft(lambda draft: None), lambda catalog: catalog.open_draft().keep(), entered):
            catalog = catalog_of("x a")
            for _ in range(100):
                keep(catalog)
            for _ in range(100):
                catalog.undo()
            self.assertEqual(shown(catalog), {"x": "a"})
            self.assert_nothing_to_undo(catalog)
            for _ in range(30):
                keep(catalog)
                catalog.undo()
            self.assert_nothing_to_undo(catalog)


class Drafts(Case):

    def test_example(self):
        catalog = catalog_of("pair ab", "old <pair>*")
        draft = catalog.open_draft()
        draft.put("new", "(ba)*")
        self.assertEqual(["new" in catalog, draft.cost("old", "new")], [False, 2])
        self.assertRaises(DraftOpen, catalog.undo)

    def test_a_draft_is_a_catalog_without_a_past(self):
        catalog = catalog_of("x a", "y <x>b")
        draft = catalog.open_draft()
        self.assertIs(type(draft), Catalog)
        self.assertEqual(draft, catalog)
        self.assertIs(draft.prices(), ONE)
        self.assertRaises(NothingToUndo, draft.undo)
        draft.put("z", "<y>")
        draft.remove("z")
        draft.undo()
        draft.rename("x", "k")
        self.assertEqual([shown(draft), shown(catalog)], [{"k": "a", "y": "<k>b", "z": "<y>"}, {"x": "a", "y": "<x>b"}])

    def test_keep_is_one_change(self):
        catalog = catalog_of("x a")
        draft = catalog.open_draft()
        draft.put("y", "<x>b")
        draft.put("x", "b")
        draft.undo()
        draft.put("z", "a")
        self.assertIsNone(draft.keep())
        self.assertEqual(shown(catalog), {"x": "a", "y": "<x>b", "z": "a"})
        catalog.undo()
        self.assertEqual(shown(catalog), {"x": "a"})
        catalog.undo()
        self.assertEqual(shown(catalog), {})

    def test_a_draft_that_is_the_same_is_a_change(self):
        catalog = catalog_of("x a")
        catalog.open_draft().keep()
        catalog.undo()
        self.assertEqual(shown(catalog), {"x": "a"})

    def test_drop_leaves_no_trace(self):
        catalog = catalog_of("x a")
        draft = catalog.open_draft()
        draft.put("x", "b")
        self.assertIsNone(draft.drop())
        self.assertEqual(shown(catalog), {"x": "a"})
        catalog.undo()
        self.assertRaises(NothingToUndo, catalog.undo)

    def test_what_raises_while_a_draft_is_open(self):
        catalog = catalog_of("x a")
        draft = catalog.open_draft()
        before = shown(catalog)
        for call in changing_calls(catalog):
            self.assertRaises(DraftOpen, call)
        self.assertEqual([shown(catalog), catalog.expression("x"), catalog.cost("x", "x"), len(catalog), catalog.users("x")],
                         [before, "a", 0, 1, []])
        draft.put("y", "b")
        draft.keep()
        for call in (lambda: catalog.put("k", "a"), lambda: catalog.rename("x", "z"), catalog.undo, lambda: catalog.remove("k"),
                     lambda: catalog.open_draft().drop(), lambda: entered(catalog)):
            call()
        self.assertRaises(UnknownName, catalog.remove, 7)

    def test_what_is_not_open(self):
        catalog = catalog_of("x a")
        draft = catalog.open_draft()
        draft.keep()
        self.assertRaises(NotOpen, draft.keep)
        self.assertRaises(NotOpen, draft.drop)
        for call in (catalog.keep, catalog.drop, Catalog(ONE).keep, Catalog(ONE).drop):
            self.assertRaises(NotOpen, call)
        dropped = catalog.open_draft()
        dropped.drop()
        self.assertRaises(NotOpen, dropped.keep)
        self.assertRaises(NotOpen, dropped.drop)

    def test_a_closed_draft_goes_on_as_a_catalog_of_its_own(self):
        for close in (Catalog.keep, Catalog.drop):
            catalog = catalog_of("x a")
            draft = catalog.open_draft()
            draft.put("y", "b")
            close(draft)
            after = shown(catalog)
            draft.put("z", "ab")
            self.assertEqual([shown(catalog), shown(draft)], [after, {"x": "a", "y": "b", "z": "ab"}])
            draft.undo()
            draft.undo()
            self.assertEqual(shown(draft), {"x": "a"})
            self.assertRaises(NothingToUndo, draft.undo)
            inner = draft.open_draft()
            inner.put("p", "a")
            inner.keep()
            self.assertEqual([shown(draft), shown(catalog)], [{"p": "a", "x": "a"}, after])
            catalog.put("x", "b")
            self.assertEqual(draft.expression("x"), "a")

    def test_drafts_of_drafts(self):
        catalog = catalog_of("x a")
        one = catalog.open_draft()
        one.put("y", "b")
        two = one.open_draft()
        two.put("z", "ab")
        for call in changing_calls(catalog) + changing_calls(one):
            self.assertRaises(DraftOpen, call)
        two.keep()
        self.assertEqual([shown(catalog), shown(one)], [{"x": "a"}, {"x": "a", "y": "b", "z": "ab"}])
        one.undo()
        self.assertEqual(shown(one), {"x": "a", "y": "b"})
        three = one.open_draft()
        three.remove("y")
        three.drop()
        one.keep()
        self.assertEqual(shown(catalog), {"x": "a", "y": "b"})
        catalog.undo()
        self.assertEqual(shown(catalog), {"x": "a"})

    def test_decisions_are_made_for_both(self):
        catalog = catalog_of("x (ab)*", "y (ba)*")
        catalog.cost("x", "y")
        draft = catalog.open_draft()
        self.assertEqual(draft.made, 1)
        draft.cost("x", "y")
        draft.put("z", "a")
        draft.cost("z", "y"), draft.one_pass("z", "y")
        self.assertEqual([draft.made, catalog.made], [3, 3])
        catalog.cost("y", "x")
        inner = draft.open_draft()
        inner.cost("z", "x")
        self.assertEqual([draft.made, catalog.made, inner.made], [5, 5, 5])
        inner.drop()
        draft.drop()
        inner.cost("x", "x")
        draft.cost("y", "y")
        catalog.cost("x", "x"), catalog.cost("y", "y")
        catalog.put("q", "a")
        catalog.cost("q", "y"), catalog.one_pass("q", "y")
        self.assertEqual([draft.made, catalog.made, inner.made], [7, 7, 7])
        self.assertEqual(catalog_of("x (ab)*").made, 0)


class Statements(Case):

    def test_kept_at_the_end(self):
        catalog = catalog_of("x a")
        with catalog.draft() as draft:
            self.assertIs(type(draft), Catalog)
            draft.put("y", "b")
            draft.put("z", "b")
            self.assertRaises(DraftOpen, catalog.undo)
            self.assertEqual(shown(catalog), {"x": "a"})
        self.assertEqual(shown(catalog), {"x": "a", "y": "b", "z": "b"})
        self.assertRaises(NotOpen, draft.keep)
        draft.put("p", "a")
        self.assertIs("p" in catalog, False)
        catalog.undo()
        self.assertEqual(shown(catalog), {"x": "a"})

    def test_dropped_by_an_exception(self):
        for error in (Own, KeyError, EmptyFormat, KeyboardInterrupt, StopIteration):
            catalog = catalog_of("x a")
            with self.assertRaises(error):
                with catalog.draft() as draft:
                    draft.put("y", "b")
                    raise error
            self.assertEqual(shown(catalog), {"x": "a"})
            self.assertRaises(NotOpen, draft.drop)
            catalog.undo()
            self.assertRaises(NothingToUndo, catalog.undo)
            self.assertEqual(shown(draft), {"x": "a", "y": "b"})

    def test_closed_within_the_statement(self):
        catalog = catalog_of("x a")
        with catalog.draft() as draft:
            draft.put("y", "b")
            draft.keep()
            catalog.put("z", "a")
            draft.put("p", "a")
        self.assertEqual(shown(catalog), {"x": "a", "y": "b", "z": "a"})
        with catalog.draft() as draft:
            draft.put("q", "b")
            draft.drop()
            other = catalog.open_draft()
        self.assertEqual(shown(catalog), {"x": "a", "y": "b", "z": "a"})
        self.assertRaises(DraftOpen, catalog.undo)
        other.put("k", "a")
        other.keep()
        with self.assertRaises(Own):
            with catalog.draft() as draft:
                draft.keep()
                raise Own
        self.assertEqual(catalog.names(), ["k", "x", "y", "z"])

    def test_a_draft_of_the_draft_stays_open(self):
        for failing in (False, True):
            catalog = catalog_of("x a")
            try:
                with catalog.draft() as draft:
                    draft.put("y", "b")
                    inner = draft.open_draft()
                    inner.put("z", "ab")
                    if failing:
                        raise Own
            except Own:
                pass
            self.assertEqual(shown(catalog), {"x": "a"} if failing else {"x": "a", "y": "b"})
            catalog.put("p", "a")
            for call in changing_calls(draft):
                self.assertRaises(DraftOpen, call)
            inner.keep()
            self.assertEqual([shown(draft), "z" in catalog], [{"x": "a", "y": "b", "z": "ab"}, False])
            self.assertRaises(NotOpen, draft.keep)
            draft.undo()

    def test_statements_within_statements(self):
        catalog = catalog_of("x a")
        with catalog.draft() as one:
            one.put("y", "b")
            with self.assertRaises(Own):
                with one.draft() as two:
                    two.put("z", "a")
                    raise Own
            with one.draft() as two:
                two.put("p", "a")
        self.assertEqual(shown(catalog), {"p": "a", "x": "a", "y": "b"})
        with self.assertRaises(DraftOpen):
            with catalog.draft() as one:
                one.put("k", "a")
                with catalog.draft():
                    pass
        self.assertEqual(shown(catalog), {"p": "a", "x": "a", "y": "b"})
        with catalog.draft(), self.assertRaises(DraftOpen):
            catalog.undo()

    def test_the_statement_opens_the_draft(self):
        catalog = catalog_of("x a")
        guard = catalog.draft()
        catalog.put("y", "b")
        draft = catalog.open_draft()
        with self.assertRaises(DraftOpen):
            with guard:
                pass
        draft.drop()
        for _ in range(2):
            with guard as draft:
                draft.put("z", "a")
        catalog.undo()
        self.assertEqual(shown(catalog), {"x": "a", "y": "b", "z": "a"})

    def test_in_draft(self):
        catalog = catalog_of("x a")
        seen = []

        def work(draft):
            seen.append(draft)
            draft.put("y", "b")
            return draft.names()

        self.assertEqual([catalog.in_draft(work=work), shown(catalog)], [["x", "y"], {"x": "a", "y": "b"}])
        self.assertRaises(NotOpen, seen[0].keep)
        self.assertIs(catalog.in_draft(lambda draft: draft) == catalog, True)

        def failing(draft):
            draft.put("z", "b")
            raise Own

        self.assertRaises(Own, catalog.in_draft, failing)
        self.assertEqual(shown(catalog), {"x": "a", "y": "b"})
        self.assertIsNone(catalog.in_draft(lambda draft: draft.drop()))
        catalog.in_draft(lambda draft: draft.in_draft(lambda inner: inner.put("p", "a")))
        self.assertEqual(shown(catalog), {"p": "a", "x": "a", "y": "b"})
        catalog.undo()
        self.assertEqual(shown(catalog), {"x": "a", "y": "b"})
        self.assertEqual(catalog.in_draft(lambda draft: (draft.cost("x", "y"), catalog.made)), (1, 1))
        catalog.open_draft()
        self.assertRaises(DraftOpen, catalog.in_draft, failing)
        self.assertEqual(len(seen), 1)
