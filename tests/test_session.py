"""Tests of [141] to [143]: commands, what they return and raise, and executing several of them."""

from random import Random

from formatrepair.catalogs import Catalog
from formatrepair.comparisons import Comparison
from formatrepair.errors import Circular, DuplicateName, EmptyFormat, InvalidCommand, InvalidExpression, InvalidLetter
from formatrepair.errors import InvalidLine, InvalidList, InvalidName, InvalidPrices, InvalidText, NotContinuing
from formatrepair.errors import NotIncluded, NotOpen, NothingToUndo, StillUsed, UnknownLetter, UnknownName
from formatrepair.formats import Format
from formatrepair.onepass import OnePass
from formatrepair.prices import Prices
from formatrepair.repair import cheapest_script
from formatrepair.repairers import Repairer
from formatrepair.session import Session

from support import Case, other_values
from test_catalogs import shown
from test_comparisons import ONE
from test_scripts import not_prices

COUNTS = {"put": (1, 2), "remove": (1,), "rename": (2,), "undo": (0,), "begin": (0,), "keep": (0,), "drop": (0,), "names": (0,),
          "uses": (1,), "users": (1,), "show": (1,), "compare": (2,), "pass": (2,), "cost": (2,), "repair": (1, 2), "open": (2,),
          "read": (0, 1), "finish": (0,), "spent": (0,)}


def session_of(*lines, prices=ONE):
    session = Session(prices)
    for line in lines:
        session.execute(line)
    return session


class Checked(Case):

    def assert_lines(self, session, pairs):
        """Each line returns what stands beside it, or raises it."""
        for line, result in pairs:
            if isinstance(result, str):
                self.assertEqual(session.execute(line), result, line)
            else:
                self.assert_refused(session, line, *result)

    def assert_refused(self, session, line, error, *told):
        """The line raises the error and changes nothing."""
        before = self.trace(session)
        with self.assertRaises(error) as caught:
            session.execute(line)
        self.assertIs(type(caught.exception), error)
        self.assertEqual(tuple(vars(caught.exception).values()), told)
        self.assertEqual(self.trace(session), before)

    def trace(self, session):
        """Return what can be seen of a session without changing it."""
        trace = [shown(session.catalog()), session.execute("names")]
        try:
            trace.append(session.execute("spent"))
        except NotOpen:
            trace.append(None)
        return trace


class Commands(Checked):

    def test_examples(self):
        session = Session(ONE)
        lines = ["put old (ab)*", "put new (ba)*", "compare old new", "pass old new", "cost new old", "show old"]
        self.assertEqual([session.execute(line) for line in lines], ["ok", "ok", "bounded 2 ab", "bounded 2", "2", "(ab)*"])
        lines = ["begin", "put old a", "cost old new", "drop", "cost old new", "names"]
        self.assertEqual([session.execute(line) for line in lines], ["1", "ok", "1", "0", "2", "new old"])

    def test_prices(self):
        for value in not_prices():
            self.assert_raises(InvalidPrices, value, Session, value)
        self.assertEqual(Session(prices=ONE).catalog(), Catalog(ONE))

    def test_changes(self):
        session = Session(ONE)
        self.assert_lines(session, [
            ("put x a|b", "ok"), ("put y <x>*", "ok"), ("show y", "<x>*"), ("put e", "ok"), ("show e", "-"), ("remove e", "ok"),
            ("show e", (UnknownName, "e")), ("undo", "ok"), ("show e", "-"), ("rename x z", "ok"), ("show y", "<z>*"), ("names", "e y z"),
            ("put z <y>", (Circular, ["z", "y"])), ("put q <k>", (UnknownName, "k")), ("put q (", (InvalidExpression, 1)),
            ("put q -", (InvalidExpression, 0)), ("put q c", (UnknownLetter, "c")), ("put A a", (InvalidName, "A")),
            ("put - a", (InvalidName, "-")), ("put none 0", "ok"), ("show none", "0"), ("names", "e none y z"), ("remove z", (StillUsed, "y")),
            ("remove q", (UnknownName, "q")), ("rename q e", (UnknownName, "q")), ("rename z -", (InvalidName, "-")),
            ("rename z e", (DuplicateName, "e")), ("undo", "ok"), ("undo", "ok"), ("names", "e x y"), ("undo", "ok"), ("undo", "ok"),
            ("names", "x"), ("undo", "ok"), ("names", "none"), ("undo", (NothingToUndo,))])

    def test_lists(self):
        session = session_of("put a a", "put b <a>b", "put c <b><a>|", "put d")
        self.assert_lines(session, [
            ("names", "a b c d"), ("uses c", "a b"), ("uses a", "none"), ("users a", "b c"), ("users c", "none"), ("show c", "<b><a>|"),
            ("show d", "-"), ("uses d", "none"), ("uses q", (UnknownName, "q")), ("users q", (UnknownName, "q")), ("show -", (UnknownName, "-"))])

    def test_costs(self):
        keep = Prices("abc", {("a", "b"): 1, ("c", ""): 2})
        session = session_of("put x a*", "put y b*", "put z b*c?", "put e", "put n 0", "put o ab", prices=keep)
        self.assert_lines(session, [
            ("compare x y", "unbounded a"), ("compare y x", "impossible b"), ("compare z y", "bounded 2 c"), ("compare e x", "bounded 0 -"),
            ("compare e n", "impossible -"), ("compare n x", (EmptyFormat,)), ("cost x y", "none"), ("cost y x", "none"), ("cost z y", "2"),
            ("cost x x", "0"), ("pass x y", "unbounded"), ("pass z y", "bounded 2"), ("pass x x", "bounded 0"), ("pass e n", (EmptyFormat,)),
            ("pass n n", (EmptyFormat,)), ("compare q k", (UnknownName, "q")), ("cost x k", (UnknownName, "k")), ("pass q x", (UnknownName, "q"))])

    def test_the_text_of_an_unbounded_pattern(self):
        session = session_of("put x a*b*", "put y a*|b*", "put z (ab)*", "put u a*")
        catalog = session.catalog()
        for old, new in (("x", "y"), ("z", "u")):
            kind, text = session.execute(f"compare {old} {new}").split(" ")
            pattern = catalog.decision(old, new)[1]
            self.assertEqual([kind, text in catalog.format_of(old)], ["unbounded", True])
            self.assertEqual(text, "".join("".join(item[1]) if isinstance(item, tuple) else item for item in pattern))

    def test_repair(self):
        session = session_of("put x (ab)*", "put n 0", "put e")
        for text in ("", "a", "ab", "bbab", "aaaa"):
            cost, repaired = session.execute(f"repair x {text}".rstrip()).split(" ")
            repaired = repaired.replace("-", "")
            self.assertIn(repaired, Format.parse("(ab)*"))
            self.assertEqual(str(cheapest_script(ONE, text, repaired)[0]), cost)
        self.assert_lines(session, [
            ("repair x", "0 -"), ("repair e ab", "2 -"), ("repair n ab", "none"), ("repair n", "none"), ("repair x ab", "0 ab"),
            ("repair x -", (InvalidText, "-")), ("repair x aBa", (InvalidText, "aBa")), ("repair x abc", (UnknownLetter, "c")),
            ("repair q A", (UnknownName, "q")), ("repair q c", (UnknownName, "q"))])
        fixed = session_of("put x b", prices=Prices("ab", {}))
        self.assertEqual([fixed.execute("repair x a"), fixed.execute("repair x b")], ["none", "0 b"])

    def test_drafts(self):
        session = session_of("put x a")
        self.assert_lines(session, [
            ("keep", (NotOpen,)), ("drop", (NotOpen,)), ("begin", "1"), ("undo", (NothingToUndo,)), ("put y <x>", "ok"), ("begin", "2"),
            ("put z b", "ok"), ("names", "x y z"), ("keep", "1"), ("names", "x y z"), ("undo", "ok"), ("names", "x y"), ("begin", "2"),
            ("remove y", "ok"), ("drop", "1"), ("names", "x y"), ("keep", "0"), ("names", "x y"), ("undo", "ok"), ("names", "x"),
            ("keep", (NotOpen,)), ("begin", "1"), ("keep", "0"), ("undo", "ok"), ("names", "x"), ("undo", "ok"), ("names", "none"),
            ("undo", (NothingToUndo,)), ("begin", "1"), ("drop", "0"), ("undo", (NothingToUndo,)), ("drop", (NotOpen,))])


class Repairs(Checked):

    def session(self):
        return session_of("put old (ab)*", "put new (ba)*", "put x a*", "put y b*", "put n 0", "put e")

    def test_a_repair_letter_by_letter(self):
        session = self.session()
        game = OnePass(self.comparison(session))
        repairer = Repairer(game, 2, game.strategy(2))
        self.assert_lines(session, [("read a", (NotOpen,)), ("finish", (NotOpen,)), ("spent", (NotOpen,)), ("open old new", "2"), ("spent", "0")])
        for text in ("a", "ba", "", "b", "abab"):
            written = "".join(map(repairer, text))
            self.assertEqual(session.execute(f"read {text}".rstrip()), written or "-")
            self.assertEqual(session.execute("spent"), str(repairer.spent))
        self.assertEqual(session.execute("finish"), repairer.finish() or "-")
        self.assert_lines(session, [("spent", (NotOpen,)), ("read", (NotOpen,)), ("finish", (NotOpen,))])

    def comparison(self, session):
        return Comparison(ONE, session.catalog().format_of("old"), session.catalog().format_of("new"))

    def test_the_strategy_is_the_one_of_the_catalog(self):
        session = self.session()
        kind, cost, strategy = session.catalog().one_pass("old", "new")
        self.assertEqual([kind, session.execute("open old new")], ["bounded", str(cost)])
        repairer = Repairer(OnePass(self.comparison(session)), cost, strategy)
        self.assertEqual(session.execute("read abab"), "".join(map(repairer, "abab")) or "-")

    def test_all_of_a_text_or_nothing(self):
        session = self.session()
        session.execute("open old new")
        session.execute("read a")
        self.assert_lines(session, [
            ("read ba-", (InvalidLetter, "-")), ("read bb", (NotContinuing, "b")), ("read a", (NotContinuing, "a")), ("read bac", (NotContinuing, "c")),
            ("read -", (InvalidLetter, "-")), ("read bA", (InvalidLetter, "A")), ("read baba?", (InvalidLetter, "?"))])
        with self.assertRaises(NotIncluded) as caught:
            session.execute("finish")
        self.assertEqual(caught.exception.value, "a")
        session.execute("read b")
        plain = self.session()
        for line in ("open old new", "read a", "read b"):
            plain.execute(line)
        self.assertEqual(session.execute("finish"), plain.execute("finish"))

    def test_opened_in_place_of_an_open_one(self):
        session = self.session()
        self.assert_lines(session, [
            ("open old new", "2"), ("read ab", session_of("put old (ab)*", "put new (ba)*", "open old new").execute("read ab")),
            ("open x x", "0"), ("spent", "0"), ("read aaa", "aaa"), ("open old q", (UnknownName, "q")), ("open n old", (EmptyFormat,)),
            ("open x n", (EmptyFormat,)), ("read a", "a"), ("open x y", "none"), ("spent", (NotOpen,)), ("read a", (NotOpen,)), ("open e e", "0"),
            ("finish", "-"), ("finish", (NotOpen,))])

    def test_changes_of_the_catalog_do_not_change_it(self):
        session = self.session()
        plain = self.session()
        for line in ("open old new", "read a"):
            self.assertEqual(session.execute(line), plain.execute(line))
        for line in ("put old b", "begin", "put new a", "rename new k"):
            session.execute(line)
        self.assertEqual(session.execute("read bab"), plain.execute("read bab"))
        session.execute("drop")
        session.execute("undo")
        self.assertEqual([session.execute("spent"), session.execute("finish")], [plain.execute("spent"), plain.execute("finish")])

    def test_a_cost_of_0_and_empty_results(self):
        session = session_of("put x a*", "put y b?", prices=Prices("ab", {("a", ""): 0}))
        self.assert_lines(session, [("open x y", "0"), ("read aa", "-"), ("read", "-"), ("spent", "0"), ("finish", "-")])


class Refused(Checked):

    def test_values_that_are_no_lines(self):
        session = Session(ONE)
        for value in [value for value in other_values() if not isinstance(value, str)]:
            self.assert_raises(InvalidLine, value, session.execute, value)
        for line in (" ", "put  x a", " names", "names ", "put x \n", "names\n", "\n", "a\nb", "put x  "):
            self.assert_raises(InvalidLine, line, session.execute, line)
        self.assertEqual(session.execute(line="names"), "none")

    def test_lines_that_are_no_commands(self):
        session = session_of("put x a", "put y b")
        wrong = ["", "a", "Names", "name", "-", "none", "put-", "executes", "open-", "catalog", "execute", "__init__", "made", "decision"]
        for command, counts in COUNTS.items():
            for many in range(5):
                if many not in counts:
                    wrong.append(" ".join([command] + ["x", "y", "x", "y"][:many]))
        for line in wrong:
            self.assert_raises(InvalidCommand, line, session.execute, line)
        self.assertEqual(session.execute("names"), "x y")

    def test_the_form_of_the_line_comes_first(self):
        session = Session(ONE)
        for line, error in (("keep  ", InvalidLine), ("keep x", InvalidCommand), ("read a b", InvalidCommand), ("finish a", InvalidCommand),
                            ("spent 1", InvalidCommand), ("read -", NotOpen), ("finish", NotOpen), ("spent", NotOpen), ("keep", NotOpen)):
            self.assertRaises(error, session.execute, line)

    def test_every_command(self):
        session = session_of("put x a", "put y b", "begin", "open x y")
        for command, counts in COUNTS.items():
            for many in counts:
                line = " ".join([command] + ["x", "y"][:many])
                try:
                    self.assertIs(type(session.execute(line)), str)
                except (InvalidCommand, InvalidLine):
                    self.fail(line)
                except Exception:
                    continue


class All(Checked):

    def test_results(self):
        session = Session(ONE)
        for lines in (["put x a", "begin", "put y b", "names", "keep", "cost x y"], ("undo", "names")):
            results = session.execute_all(lines)
            self.assertIs(type(results), list)
            self.assertEqual(results, {6: ["ok", "1", "ok", "x y", "0", "1"], 2: ["ok", "x"]}[len(lines)])
        self.assertEqual([session.execute_all([]), session.execute_all(lines=())], [[], []])
        session.execute_all(["names"]).clear()
        self.assertEqual(session.execute("names"), "x")

    def test_an_exception_at_any_place(self):
        good = ["put z b", "begin", "put y <x>", "keep", "undo", "open x x", "read a", "finish", "rename p k", "begin", "begin", "remove k", "keep"]
        wrong = (("put x <x>", Circular), ("read c", (NotOpen, NotContinuing)), ("drop x", InvalidCommand), ("  ", InvalidLine), ("remove q", UnknownName))
        lines = ("put x a?", "put p b", "begin", "put q a", "remove q", "open p p", "read b")
        self.assertEqual(len(session_of(*lines).execute_all(good)), len(good))
        for place in range(len(good) + 1):
            for line, error in wrong:
                session = session_of(*lines)
                before = self.trace(session)
                self.assertRaises(error, session.execute_all, good[:place] + [line] + good[place:])
                self.assertEqual(self.trace(session), before)
                self.assert_lines(session, [("finish", "-"), ("undo", "ok"), ("names", "p q x"), ("undo", "ok"), ("undo", (NothingToUndo,)),
                                            ("keep", "0"), ("keep", (NotOpen,)), ("names", "p x"), ("undo", "ok"), ("undo", "ok"), ("names", "x"),
                                            ("undo", "ok"), ("names", "none"), ("undo", (NothingToUndo,))])

    def test_the_session_goes_on_behind_it(self):
        session = session_of("put x a", "begin", "put y b", "begin", "put z ab", "open x x")
        other = session_of("put x a", "begin", "put y b", "begin", "put z ab", "open x x")
        for lines in (["read a", "keep"], ["undo", "finish"], ["drop", "undo"], ["begin", "put p a", "keep", "undo", "names"]):
            self.assertEqual(session.execute_all(lines), [other.execute(line) for line in lines])
            self.assertEqual(self.trace(session), self.trace(other))

    def test_drawn_lines(self):
        random = Random(143)
        lines = ["put x a", "put y <x>b", "put z (ab)*", "put y a", "remove x", "remove y", "rename y k", "rename x y", "undo", "undo", "begin",
                 "begin", "keep", "drop", "names", "cost x y", "open x y", "open z z", "read ab", "read a", "read", "finish", "spent", "show y"]
        whole = 0
        for _ in range(400):
            session, other = Session(ONE), Session(ONE)
            for _ in range(4):
                some = random.choices(lines, k=random.randint(1, 5))
                before = self.trace(session)
                try:
                    found = session.execute_all(some)
                    whole += 1
                    self.assertEqual(found, [other.execute(line) for line in some])
                except (LookupError, ValueError) as error:
                    self.assertEqual(self.trace(session), before)
                    with self.assertRaises(type(error)):
                        Session.execute_all(session, some)
                self.assertEqual(self.trace(session), self.trace(other))
                self.assertEqual(session, other)
        self.assertGreater(whole, 100)

    def test_sixty_lines(self):
        session = Session(ONE)
        self.assertEqual(session.execute_all(["names"] * 60), ["none"] * 60)
        self.assertEqual(session.execute_all(["put x a"] * 60), ["ok"] * 60)
        for lines in (["names"] * 61, ("names",) * 61, ["put y a"] * 70):
            self.assert_raises(InvalidList, lines, session.execute_all, lines)
        self.assertEqual(session.execute("names"), "x")

    def test_values_that_are_no_lists_of_strings(self):
        session = Session(ONE)
        wrong = [value for value in other_values()
                 if not isinstance(value, (list, tuple)) or not all(isinstance(part, str) for part in value)]
        wrong += ["names", {"names": 1}, ["names", None], [None], ["put x a", 1], [["names"]], [("names",)], ["names", True]]
        for value in wrong:
            self.assert_raises(InvalidList, value, session.execute_all, value)
        self.assertEqual(session.execute("names"), "none")
        for lines in (["a"], ("a",), ["names", ""]):
            self.assertRaises(InvalidCommand, session.execute_all, lines)

    def test_more_than_a_hundred_changes(self):
        session = Session(ONE)
        for _ in range(2):
            session.execute_all(["put x a", "put x b"] * 30)
        session.execute_all(["undo"] * 50)
        session.execute_all(["undo"] * 50)
        self.assertRaises(NothingToUndo, session.execute, "undo")
        self.assertEqual(session.execute("show x"), "b")


class Catalogs(Checked):

    def test_the_catalog_is_a_new_one(self):
        session = session_of("put x a", "put y <x>b", "cost x y", "begin", "put z b")
        catalog = session.catalog()
        self.assertIs(type(catalog), Catalog)
        self.assertEqual([shown(catalog), catalog.made, catalog.prices() == ONE], [{"x": "a", "y": "<x>b", "z": "b"}, 0, True])
        self.assertRaises(NothingToUndo, catalog.undo)
        self.assertRaises(NotOpen, catalog.keep)
        catalog.put("k", "a")
        catalog.remove("y")
        self.assertEqual([session.execute("names"), session.catalog().names()], ["x y z", ["x", "y", "z"]])
        session.execute("drop")
        self.assertEqual([session.catalog().names(), catalog.names()], [["x", "y"], ["k", "x", "z"]])
        session.execute("put p b")
        self.assertIs("p" in catalog, False)

    def test_equality(self):
        session = session_of("put x a", "put y b")
        for other in (session_of("put y b", "put x a"), session_of("put y b", "begin", "put x a"), session_of("put x a", "put y b", "open x x", "read a"),
                      session_of("put x b", "put x a", "put y b", "cost x y")):
            self.assertIs(session == other, True)
            self.assertIs(session != other, False)
        for other in (Session(ONE), session_of("put x a"), session_of("put x a", "put y (b)"), session_of("put x a", "put y b", "begin", "remove y"),
                      session_of("put x a", "put y b", prices=Prices("ab", {}, default=2)), session.catalog(), *other_values()):
            self.assertIs(session == other, False)
        self.assertIs(type(repr(session)), str)
