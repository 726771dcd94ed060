"""Gates: a net of rows, each told by its place, and what they settle as."""


class Net:
    def __init__(self):
        self.rows = []
        self.places = {}
        self.placed(("no",))
        self.placed(("yes",))

    # A row that is there already is not put again: so no two are alike, and what is laid twice is there once.
    def placed(self, row):
        if row not in self.places:
            self.places[row] = len(self.rows)
            self.rows.append(row)
        return self.places[row]

    def asked(self, sort, name, place):
        return self.placed(("in", sort, name, place))

    # Rows 0 and 1 settle as 0 and 1: beside one of them, and of a row with itself, no gate is asked for.
    def both(self, i, j):
        low = min(i, j)
        high = max(i, j)
        if low == 0 or low == high:
            return low
        if low == 1:
            return high
        return self.placed(("and", low, high))

    def differ(self, i, j):
        low = min(i, j)
        high = max(i, j)
        if low == high:
            return 0
        if low == 0:
            return high
        return self.placed(("xor", low, high))

    def told(self):
        return list(self.rows)


# A row names none but rows ahead of it, so one walk settles them all.
def settle(rows, ins):
    bits = []
    for row in rows:
        if row[0] == "and":
            bits.append(bits[row[1]] & bits[row[2]])
        elif row[0] == "xor":
            bits.append(bits[row[1]] ^ bits[row[2]])
        elif row[0] == "in":
            bits.append(ins[row[1:]])
        else:
            bits.append(1 if row[0] == "yes" else 0)
    return bits
