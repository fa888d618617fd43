"""Tables over a field: products, ranks, readers and noughts."""


# Fitted once, at the end: plans are made and judged by so many of these sums that fitting each step is felt.
def row_sum(field, one, other):
    return field.fit(sum([mine * theirs for mine, theirs in zip(one, other)]))


def column(table, place):
    return [row[place] for row in table]


def times_row(field, table, row):
    return [row_sum(field, mine, row) for mine in table]


def product(field, one, other):
    columns = [column(other, place) for place in range(len(other[0]))]
    return [times_row(field, columns, row) for row in one]


def ones_row(many, own):
    return [1 if place == own else 0 for place in range(many)]


def ones(many):
    return [ones_row(many, own) for own in range(many)]


def fitted_row(field, row):
    return [field.fit(number) for number in row]


def row_with(rows, start, place):
    for at in range(start, len(rows)):
        if rows[at][place] != 0:
            return at
    return None


def scaled(field, row, number):
    return [field.times(number, mine) for mine in row]


def without(field, row, lead, place):
    often = row[place]
    if often == 0:
        return row
    return [field.minus(mine, field.times(often, theirs)) for mine, theirs in zip(row, lead)]


# The row at `at` becomes the one at `start`, with 1 at the place where all other rows then have 0.
def cleared(field, rows, start, at, place):
    lead = scaled(field, rows[at], field.back(rows[at][place]))
    others = [without(field, row, lead, place) for row in rows[:at] + rows[at + 1:]]
    return others[:start] + [lead] + others[start:]


# Only the first `many` places are cleared; what stands behind them goes along, and so keeps a record of the steps.
def reduced(field, table, many):
    rows = [fitted_row(field, row) for row in table]
    start = 0
    for place in range(many):
        at = row_with(rows, start, place)
        if at is not None:
            rows = cleared(field, rows, start, at, place)
            start += 1
    return rows


def first_place(row, many):
    for place in range(many):
        if row[place] != 0:
            return place
    return None


def lead_places(rows, many):
    places = [first_place(row, many) for row in rows]
    return [place for place in places if place is not None]


def rank(field, table):
    if len(table) == 0:
        return 0
    many = len(table[0])
    return len(lead_places(reduced(field, table, many), many))


def reader(field, table, many):
    joined = [row + own for row, own in zip(table, ones(len(table)))]
    rows = reduced(field, joined, many)
    if len(lead_places(rows, many)) < many:
        return None
    return [row[many:] for row in rows[:many]]


def nought(field, table, many):
    rows = reduced(field, table, many)
    places = lead_places(rows, many)
    unled = [place for place in range(many) if place not in places]
    if len(unled) == 0:
        return None
    told = ones_row(many, unled[0])
    # Each led row has 1 at its own place and 0 at the other led ones, so its sum hangs on that place alone.
    for row, place in zip(rows, places):
        told[place] = field.minus(0, row[unled[0]])
    return told
