"""Exchanges, by which tables of however many unequations are solved, unchecked.

Variables are numbers: row by row what its bound leaves, then the positions. Each row has a variable of its own, told by
those that are free, and a point is where all free ones are 0. All numbers are whole, over one under.
"""

from wishways.ratios import reduced


class Board:
    """Unequations on the way to an answer.

    Each line has what the row's own variable comes to, then its numbers of the free ones.
    """

    def __init__(self, rows, bounds):
        self.many = len(rows)
        self.positions = len(rows[0])
        self.under = 1
        self.owners = list(range(len(rows)))
        self.free = [None] + list(range(len(rows), len(rows) + len(rows[0])))
        self.lines = [[bound] + list(row) for row, bound in zip(rows, bounds)]
        self.gains = [0 for _ in self.free]
        self.sequence = list(self.owners)
        self.going = None


def value_at(board, variable):
    """What a variable comes to, a RATIO."""
    if variable not in board.owners:
        return (0, 1)
    return reduced(board.lines[board.owners.index(variable)][0], board.under)


def point_of(board):
    return tuple([value_at(board, board.many + at) for at in range(board.positions)])


def gain_of(board, variable):
    """What the worth gains, times under, where the variable is let grow: nothing by one that owns a row."""
    return board.gains[board.free.index(variable)] if variable in board.free else 0


def price_numbers(board):
    """The list of the rows' prices, times under."""
    return [-gain_of(board, row) for row in range(board.many)]


def prices_of(board):
    return tuple([reduced(number, board.under) for number in price_numbers(board)])


def direction_of(board, at):
    """Where the point goes while the free variable at a place grows, by 1 each time."""
    ahead = {owner: reduced(-line[at], board.under) for owner, line in zip(board.owners, board.lines)}
    ahead[board.free[at]] = (1, 1)
    return tuple([ahead.get(board.many + position, (0, 1)) for position in range(board.positions)])


def set_worths(board, worths):
    """What is gained from now on, by a dict of the variables that are worth something."""
    mine = [worths.get(owner, 0) for owner in board.owners]
    paid = [sum([worth * line[at] for worth, line in zip(mine, board.lines)]) for at in range(len(board.free))]
    board.gains = [worths.get(variable, 0) * board.under - cost for variable, cost in zip(board.free, paid)]


def without_chief(line, chief, at, under, sign):
    """A line told without the variable that was free at a place, by the chief line, whose row that one comes to own."""
    factor, pivot = line[at], chief[at]
    # What was over the old under is over the pivot now: the division leaves nothing.
    made = [(number * pivot - factor * other) // under for number, other in zip(line, chief)]
    made[at] = -factor * sign
    return made


def exchange(board, row, at):
    """Let the variable that is free at a place own the row, and the row's own one be free there."""
    sign = -1 if board.lines[row][at] < 0 else 1
    chief = [number * sign for number in board.lines[row]]
    lines = [without_chief(line, chief, at, board.under, sign) for line in board.lines]
    board.gains = without_chief(board.gains, chief, at, board.under, sign)
    pivot = chief[at]
    chief[at] = board.under * sign
    lines[row] = chief
    board.lines = lines
    board.under = pivot
    board.owners[row], board.free[at] = board.free[at], board.owners[row]


def numbers_of(board, variable):
    """The list, line by line, of the variable's numbers."""
    if variable in board.free:
        at = board.free.index(variable)
        return [line[at] for line in board.lines]
    return [board.under if owner == variable else 0 for owner in board.owners]


def of_least_quotient(rows, numbers, parts):
    """Of the rows those whose number, divided by its part above 0, is least."""
    best = rows[0]
    for row in rows:
        if numbers[row] * parts[best] < numbers[best] * parts[row]:
            best = row
    return [row for row in rows if numbers[row] * parts[best] == numbers[best] * parts[row]]


def leaving_row(board, at):
    """The row that bounds the variable that is free at a place; None if none does."""
    parts = [line[at] for line in board.lines]
    rows = [row for row, part in enumerate(parts) if part > 0]
    if rows == []:
        return None
    rows = of_least_quotient(rows, [line[0] for line in board.lines], parts)
    for row in rows:
        if board.owners[row] == board.going:
            return row
    # Of rows alike, the variables that owned rows at first decide, one by one: so no exchange ever comes again.
    for variable in board.sequence:
        if len(rows) > 1:
            rows = of_least_quotient(rows, numbers_of(board, variable), parts)
    return rows[0]


def climb(board):
    """Exchange until nothing gains, and return None; or the place of a free variable by which it gains without end."""
    board.sequence = list(board.owners)
    while True:
        most = max(board.gains[1:])
        if most <= 0:
            return None
        at = board.gains.index(most, 1)
        row = leaving_row(board, at)
        if row is None:
            return at
        exchange(board, row, at)


def has_start(board):
    """Whether there is a point; the board is brought to one then, otherwise to prices that are a bar."""
    ends = [line[0] for line in board.lines]
    if min(ends) >= 0:
        return True
    # One more variable lifts all bounds alike; it is made as little as can be.
    board.going = board.many + board.positions
    board.free.append(board.going)
    board.lines = [line + [-1] for line in board.lines]
    board.gains.append(0)
    exchange(board, ends.index(min(ends)), len(board.free) - 1)
    set_worths(board, {board.going: -1})
    climb(board)
    if board.going in board.owners:
        return False
    at = board.free.index(board.going)
    board.lines = [line[:at] + line[at + 1:] for line in board.lines]
    del board.free[at]
    board.going = None
    return True


def add_position(board, numbers):
    """One more position, of no worth, with a number for each row."""
    columns = [numbers_of(board, row) for row in range(board.many)]
    board.lines = [line + [sum([number * column[at] for number, column in zip(numbers, columns)])]
                   for at, line in enumerate(board.lines)]
    board.gains.append(sum([number * gain_of(board, row) for row, number in enumerate(numbers)]))
    board.free.append(board.many + board.positions)
    board.positions += 1


def answered(rows, bounds, worths):
    """An answer of the table with these rows, bounds and worths, of whatever size and numbers."""
    board = Board(rows, bounds)
    if not has_start(board):
        return ("none", prices_of(board))
    set_worths(board, {board.many + at: worth for at, worth in enumerate(worths)})
    endless = climb(board)
    if endless is not None:
        return ("endless", point_of(board), direction_of(board, endless))
    return ("best", point_of(board), prices_of(board))
