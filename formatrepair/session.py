"""Sessions, which execute commands over a catalog."""

from formatrepair.basics import is_list, split_words
from formatrepair.catalogs import Catalog
from formatrepair.errors import InvalidCommand, InvalidList, NotOpen
from formatrepair.formattexts import number_word, symbol_word
from formatrepair.patterns import text_of
from formatrepair.prices import script_target
from formatrepair.repair import repair
from formatrepair.repairers import Repairer, answer_to

MOST_LINES = 60
# The least and the greatest number of words behind the first one.
COMMANDS = {
    "put": (1, 2), "remove": (1, 1), "rename": (2, 2), "undo": (0, 0),
    "begin": (0, 0), "keep": (0, 0), "drop": (0, 0),
    "names": (0, 0), "uses": (1, 1), "users": (1, 1), "show": (1, 1),
    "compare": (2, 2), "pass": (2, 2), "cost": (2, 2), "repair": (1, 2),
    "open": (2, 2), "read": (0, 1), "finish": (0, 0), "spent": (0, 0),
}
CHANGES = ("put", "remove", "rename", "undo")
DRAFTS = ("begin", "keep", "drop")
LISTS = ("names", "uses", "users", "show")
COSTS = ("compare", "pass", "cost", "repair")


class Session:
    """Executes commands; the present catalog is the last one, each of the others has the next one as its draft."""

    def __init__(self, prices):
        self._catalogs = [Catalog(prices)]
        self._repairer = None

    def execute(self, line):
        """Execute a line and return its result."""
        words = split_words(line)
        if not is_command(words):
            raise InvalidCommand(line)
        command = words[0]
        # A text or an expression that is missing is empty, and is the last one.
        values = words[1:] + [""]
        catalog = self._catalogs[-1]
        if command in CHANGES:
            return changed(catalog, command, values)
        if command in DRAFTS:
            return self._draft(command)
        if command in LISTS:
            return listed(catalog, command, values)
        if command in COSTS:
            return compared(catalog, command, values)
        if command == "open":
            return self._begin(catalog, values)
        return self._repair(command, values)

    def _draft(self, command):
        """Open or close a draft and return how many are open."""
        catalog = self._catalogs[-1]
        if command == "begin":
            self._catalogs.append(catalog.open_draft())
        else:
            if command == "keep":
                catalog.keep()
            else:
                catalog.drop()
            self._catalogs.pop()
        return str(len(self._catalogs) - 1)

    def _begin(self, catalog, values):
        """Begin a repair letter by letter and return its cost."""
        decision = catalog.one_pass(values[0], values[1])
        if decision[0] == "unbounded":
            self._repairer = None
            return number_word(None)
        _, cost, strategy = decision
        self._repairer = Repairer(catalog.game(values[0], values[1]), cost, strategy)
        return number_word(cost)

    def _repair(self, command, values):
        """Go on with the open repair."""
        if self._repairer is None:
            raise NotOpen()
        if command == "spent":
            return number_word(self._repairer.spent)
        # A copy goes on, so a text that cannot be read whole leaves no trace.
        repairer = self._repairer.copied()
        if command == "read":
            written = answer_to(repairer, values[0])
            self._repairer = repairer
        else:
            written = repairer.finish()
            self._repairer = None
        return symbol_word(written)

    def execute_all(self, lines):
        """Execute the lines in order and return the list of the results, or change nothing."""
        if not is_list(lines) or len(lines) > MOST_LINES or not all([isinstance(line, str) for line in lines]):
            raise InvalidList(lines)
        trial = Session(self._catalogs[0].prices())
        trial._catalogs = copied_catalogs(self._catalogs)
        trial._repairer = self._repairer
        results = [trial.execute(line) for line in lines]
        self._catalogs = trial._catalogs
        self._repairer = trial._repairer
        return results

    def catalog(self):
        """Return a new catalog with the names and expressions of the present one."""
        return self._catalogs[-1].fresh_copy()

    def __eq__(self, other):
        return isinstance(other, Session) and self._catalogs[-1] == other._catalogs[-1]


def is_command(words):
    """Return whether the words are a command with as many words as it takes."""
    if len(words) == 0 or words[0] not in COMMANDS:
        return False
    least, most = COMMANDS[words[0]]
    return least <= len(words) - 1 <= most


def copied_catalogs(catalogs):
    """Return copies of catalogs, each of which is the draft of the one before it."""
    copies = []
    owner = None
    for catalog in catalogs:
        owner = catalog.copied_under(owner)
        copies.append(owner)
    return copies


def changed(catalog, command, values):
    """Change a catalog."""
    if command == "put":
        catalog.put(values[0], values[1])
    elif command == "remove":
        catalog.remove(values[0])
    elif command == "rename":
        catalog.rename(values[0], values[1])
    else:
        catalog.undo()
    return "ok"


def listed(catalog, command, values):
    """Return the line of a list of names or of an expression."""
    if command == "show":
        return symbol_word(catalog.expression(values[0]))
    if command == "names":
        names = catalog.names()
    elif command == "uses":
        names = catalog.uses(values[0])
    else:
        names = catalog.users(values[0])
    return " ".join(names) if names else number_word(None)


def compared(catalog, command, values):
    """Return the line of what a repair costs."""
    if command == "compare":
        return decision_line(catalog.decision(values[0], values[1]))
    if command == "pass":
        decision = catalog.one_pass(values[0], values[1])
        return "unbounded" if decision[0] == "unbounded" else f"bounded {decision[1]}"
    if command == "cost":
        return number_word(catalog.cost(values[0], values[1]))
    found = repair(catalog.prices(), values[1], catalog.format_of(values[0]))
    if found is None:
        return number_word(None)
    cost, script = found
    return f"{cost} {symbol_word(script_target(catalog.prices(), script))}"


def decision_line(decision):
    """Return the line of a decision."""
    if decision[0] == "impossible":
        return f"impossible {symbol_word(decision[1])}"
    if decision[0] == "unbounded":
        return f"unbounded {text_of(decision[1], 1)}"
    return f"bounded {decision[1]} {symbol_word(decision[2])}"
