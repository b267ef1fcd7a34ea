"""The items that came on one side of a join, by keys."""

from brooktally.ranks import ahead, with_keys


class Side:
    def __init__(self):
        self.rows = {}

    def put(self, item):
        pair = (item[0], item[2])
        row = self.rows.get(item[1], [])
        place = ahead(row, pair)
        self.rows[item[1]] = row[:place] + [pair] + row[place:]

    def near(self, key, low, high):
        row = self.rows.get(key, [])
        return row[ahead(row, (low,)):ahead(row, (high + 1,))]

    def drop(self, least):
        for key in list(self.rows):
            row = self.rows[key]
            kept = row[ahead(row, (least,)):]
            if len(kept) > 0:
                self.rows[key] = kept
            else:
                self.rows.pop(key)

    def kept(self):
        return with_keys(self.rows)
