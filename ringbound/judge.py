"""The judge: which promises are broken in the log of a memory and in the rows of a driver."""

from ringbound.guard import CELLS
from ringbound.replay import find_lendings, find_uses, is_within
from ringbound.requests import after_request, new_table
from ringbound.rings import buffer_page

NO_FAULT = ("", -1)
# The frames below this one are those of the rings, which drivers use while they are lent.
FIRST_OF_POOL = 2


def lendings(log):
    """Return the list of the lendings (device, page, frame, right, from, to), by from."""
    return find_lendings(log)


def log_fault(log):
    """Return the tuple (word, number) of the first access that breaks a lending, or ("", -1)."""
    by_frame = {}
    for lending in find_lendings(log):
        device, _, frame, _, _, _ = lending
        by_frame.setdefault((device, frame), []).append(lending)
    for use in find_uses(log):
        number, (_, device), _, frame, _, _ = use
        around = [lending for lending in by_frame.get((device, frame), []) if is_within(number, lending)]
        word = use_fault(use, around)
        if word != "":
            return (word, number)
    return NO_FAULT


def use_fault(use, around):
    """Return the word of the fault of the use, when these are the lendings of its frame around it, or ""."""
    _, (role, _), right, frame, _, _ = use
    if role == "device":
        rights = [lending[3] for lending in around]
        return "" if right in rights else "lent"
    return "hand" if around and frame >= FIRST_OF_POOL else ""


def row_fault(rows, log, device):
    """Return the tuple (word, index) of the first fault of the rows of an honest device, or ("", -1)."""
    made = [(number, request, result) for number, actor, request, result in log if actor == ("device", device)]
    commits = [entry for entry in made if entry[1][0] == "commit"]
    fetches = [entry for entry in made if entry[1][0] == "fetch"]
    for row in rows:
        if is_missing(row, commits if row[1][0] == "write" else fetches):
            return ("missing", row[0])
    for row in rows:
        if row[1][0] == "write" and len(made_for(row, commits)) > 1:
            return ("twice", row[0])
    is_plain = all_fetches_are_plain(made)
    for row in rows:
        if is_answered_read(row) and (not is_plain or not has_values_of_fetch(row, fetches)):
            return ("answer", row[0])
    return NO_FAULT


def is_ok(answer):
    """True if the answer is neither "broken" nor still to come."""
    return answer is not None and answer[0] == "ok"


def is_answered_read(row):
    """True if the row is a read with an ok answer."""
    return row[1][0] == "read" and is_ok(row[2])


def place_of(entry):
    """Return the generation and the sequence of a commit or fetch."""
    return entry[1][-2:]


def made_for(row, entries):
    """Return those of the commits or fetches that the device made for the sendings of the row."""
    places = [sending[:2] for sending in row[5]]
    return [entry for entry in entries if place_of(entry) in places]


def is_missing(row, entries):
    """True if the row was answered, but the device had not done by then what was asked for."""
    _, _, answer, first, last, _ = row
    if not is_ok(answer):
        return False
    return not [number for number, _, _ in made_for(row, entries) if first < number < last]


def has_values_of_fetch(row, fetches):
    """True if the values of the answered read are those of the last fetch of its last sending."""
    _, _, answer, _, _, sendings = row
    results = [entry[2] for entry in fetches if place_of(entry) == sendings[-1][:2]]
    return bool(results) and results[-1] == answer[1]


def all_fetches_are_plain(made):
    """True if each fetch of a device returned what the plain table has behind the commits before it."""
    table = new_table()
    for _, request, result in made:
        if request[0] == "commit":
            table = after_request(table, ("write", request[1], request[2]))
        elif request[0] == "fetch" and result != table[request[1]]:
            return False
    return True


def moment_fault(rows, log, device):
    """Return the index of the first row that is not of one moment, or -1."""
    lent = [lending for lending in find_lendings(log) if lending[0] == device]
    uses = [use for use in find_uses(log) if use[1][1] == device]
    for row in rows:
        if is_answered_read(row) and not is_of_one_moment(row, lent, uses):
            return row[0]
    return -1


def is_of_one_moment(row, lent, uses):
    """True if the answered read has the values that its buffer had when its lending had ended."""
    _, _, _, _, last, sendings = row
    _, _, tag, frame = sendings[-1]
    of_frame = [lending for lending in lent if lending[2] == frame and lending[4] < last]
    own = [lending for lending in of_frame if lending[1] == buffer_page(tag)]
    if not own or own[-1][5] is None:
        return False
    begin, end = own[-1][4:]
    before = [lending for lending in of_frame if lending[4] < begin]
    # Without a lending before, the frame was the driver's from the beginning; None: it never came back.
    returned = before[-1][5] if before else 0
    until = [use for use in uses if use[3] == frame and use[0] <= last]
    behind = [use for use in until if use[0] > end]
    if not are_read_through(behind, last) or [use for use in behind if use[2] == "w"]:
        return False
    written = [use for use in until if use[2] == "w"]
    return all([is_known(written, index, (begin, end), returned) for index in range(CELLS)])


def are_read_through(behind, last):
    """True if the driver has read the four cells, ascending, the last of them by the access with this number."""
    index = 0
    for number, (role, _), right, _, at, _ in behind:
        is_next = role == "driver" and right == "r" and at == index
        # The last cell may have been read before, too: it counts where the row ends.
        if is_next and (index < CELLS - 1 or number == last):
            index += 1
    return index == CELLS


def is_known(written, index, span, returned):
    """True if it is known who wrote the cell: the driver the 0 of before, or the device within its lending."""
    mine = [use for use in written if use[4] == index]
    if not mine:
        return False
    number, (role, _), _, _, _, value = mine[-1]
    if role == "device":
        begin, end = span
        return begin < number < end
    return value == 0 and returned is not None and number > returned
