"""Catalogs: formats by names, with drafts of changes and the decisions that were made for them."""

from formatrepair.basics import is_list, is_name
from formatrepair.comparisons import Comparison
from formatrepair.costs import cost_sum
from formatrepair.entries import full_tree, renamed_entries, require_fitting_trees, trees_of, users_of
from formatrepair.errors import DraftOpen, DuplicateName, InvalidList, InvalidName, NotOpen, NothingToUndo
from formatrepair.errors import StillUsed, UnknownName
from formatrepair.expressions import names_of, parse_expression, words_of
from formatrepair.formats import Format
from formatrepair.formattexts import write_format
from formatrepair.onepass import OnePass
from formatrepair.prices import require_known, require_prices

MOST_CHANGES = 100


class Decisions:
    """The decisions that were made for a catalog and all its drafts, by the two formats that they are for."""

    def __init__(self, prices):
        self._prices = prices
        self._compared = {}
        self._games = {}

    def comparison_of(self, first, second):
        """Return a comparison of two formats whose decision is made."""
        key = (write_format(first), write_format(second))
        if key not in self._compared:
            comparison = Comparison(self._prices, first, second)
            comparison.decision()
            self._compared[key] = comparison
        return self._compared[key]

    def game_of(self, first, second):
        """Return the game of repair letter by letter of two formats, whose decision is made."""
        key = (write_format(first), write_format(second))
        if key not in self._games:
            self._games[key] = OnePass(Comparison(self._prices, first, second))
        return self._games[key]

    def many(self):
        """Return how many decisions were made."""
        return len(self._compared) + len(self._games)


class DraftGuard:
    """Opens a draft of a catalog at the beginning of a with statement, and closes it at the end."""

    def __init__(self, catalog):
        self._catalog = catalog
        self._guarded = None
        self._past = None

    def __enter__(self):
        self._guarded = self._catalog.open_draft()
        self._past = self._catalog.past()
        return self._guarded

    def __exit__(self, kind, value, trace):
        catalog = self._catalog
        draft = self._guarded
        if draft._owner is None:
            return
        if kind is None:
            self._past.append(catalog._entries)
            catalog._entries = draft._entries
        catalog._child = None
        draft._owner = None


class Catalog:
    """Keeps formats by names, as expressions in which names stand for other formats."""

    def __init__(self, prices):
        require_prices(prices)
        self._prices = prices
        # The entries are never modified: each change puts new ones in their
        # place, and the ones before it are kept in the past to be undone.
        self._entries = {}
        self._past = []
        self._decisions = Decisions(prices)
        self._owner = None
        self._child = None

    def prices(self):
        """Return the price table."""
        return self._prices

    def _require_no_draft(self):
        """Raise DraftOpen if a draft of this catalog is open."""
        if self._child is not None:
            raise DraftOpen()

    def _require_name(self, name):
        """Raise UnknownName if the catalog does not have the name."""
        if name not in self:
            raise UnknownName(name)

    def _change(self, entries):
        """Put new entries in the place of the present ones, which are kept to be undone."""
        self.past().append(self._entries)
        self._entries = entries

    def past(self):
        """Return the list of the earlier entries that can be undone, the latest ones last."""
        # Changes are put into this list without a look at their number, so it is seen to here.
        del self._past[:-MOST_CHANGES]
        return self._past

    def put(self, name, text):
        """Add a name with an expression, or give it another one."""
        self._require_no_draft()
        if not is_name(name):
            raise InvalidName(name)
        tree = parse_expression(text)
        require_known(self._prices, words_of(tree, "letter"))
        for other in words_of(tree, "name"):
            if other != name and other not in self:
                raise UnknownName(other)
        trees = trees_of(self._entries)
        trees[name] = tree
        require_fitting_trees(trees, name)
        self._change({**self._entries, name: text})

    def remove(self, name):
        """Remove a name."""
        self._require_no_draft()
        self._require_name(name)
        users = users_of(self._entries, name)
        if users:
            raise StillUsed(users[0])
        self._change({key: self._entries[key] for key in self._entries if key != name})

    def rename(self, name, other):
        """Change a name, also in all expressions."""
        self._require_no_draft()
        self._require_name(name)
        if not is_name(other):
            raise InvalidName(other)
        if other in self:
            raise DuplicateName(other)
        self._change(renamed_entries(self._entries, name, other))

    def names(self):
        """Return the list of the names in ascending order."""
        return sorted(self._entries)

    def expression(self, name):
        """Return the expression of a name."""
        self._require_name(name)
        return self._entries[name]

    def format_of(self, name):
        """Return the format of a name."""
        self._require_name(name)
        return Format.of_tree(full_tree(self._entries, name))

    def uses(self, name):
        """Return the list of the names in the expression of a name."""
        return names_of(parse_expression(self.expression(name)))

    def users(self, name):
        """Return the list of the names in whose expressions a name occurs."""
        self._require_name(name)
        return users_of(self._entries, name)

    def __len__(self):
        return len(self._entries)

    def __contains__(self, value):
        return isinstance(value, str) and value in self._entries

    def __eq__(self, other):
        return isinstance(other, Catalog) and self._prices == other._prices and self._entries == other._entries

    def decision(self, old, new):
        """Return the decision of a comparison of the formats of two names."""
        first = self.format_of(old)
        return self._decisions.comparison_of(first, self.format_of(new)).decision()

    def game(self, old, new):
        """Return the game of repair letter by letter of the formats of two names."""
        first = self.format_of(old)
        return self._decisions.game_of(first, self.format_of(new))

    def one_pass(self, old, new):
        """Return the decision of the game of repair letter by letter of the formats of two names."""
        return self.game(old, new).decision()

    def cost(self, old, new):
        """Return the greatest cost of a text of the format of the first name, or None."""
        decision = self.decision(old, new)
        return decision[1] if decision[0] == "bounded" else None

    def path_cost(self, names):
        """Return the sum of the costs from each name to the next one, or None."""
        if not is_list(names) or len(names) == 0:
            raise InvalidList(names)
        total = 0
        for old, new in zip(names, names[1:]):
            total = cost_sum(total, self.cost(old, new))
        return total

    @property
    def made(self):
        """The number of the decisions that were made so far."""
        return self._decisions.many()

    def undo(self):
        """Take back the last change."""
        self._require_no_draft()
        past = self.past()
        if len(past) == 0:
            raise NothingToUndo()
        self._entries = past.pop()

    def open_draft(self):
        """Open a draft and return it."""
        self._require_no_draft()
        draft = self.copied_under(self)
        draft._past = []
        return draft

    def keep(self):
        """Close this draft; its catalog takes over what it has."""
        self._require_draft()
        owner = self._owner
        owner._change(self._entries)
        self.drop()

    def drop(self):
        """Close this draft; its catalog stays as it was."""
        self._require_draft()
        owner = self._owner
        owner._child = None
        self._owner = None

    def _require_draft(self):
        """Raise what keeps this catalog from being closed as a draft."""
        self._require_no_draft()
        if self._owner is None:
            raise NotOpen()

    def draft(self):
        """Return what opens a draft in a with statement, and closes it at its end."""
        return DraftGuard(self)

    def in_draft(self, work):
        """Return what the function returns for the draft of such a statement."""
        with self.draft() as draft:
            return work(draft)

    def copied_under(self, owner):
        """Return an equal catalog with the same past and decisions that is a draft of the owner, if there is one."""
        copy = Catalog(self._prices)
        copy._entries = self._entries
        copy._past = list(self.past())
        copy._decisions = self._decisions
        copy._owner = owner
        if owner is not None:
            owner._child = copy
        return copy

    def fresh_copy(self):
        """Return an equal catalog without a past, drafts and decisions."""
        copy = Catalog(self._prices)
        copy._entries = self._entries
        return copy
