"""The constants that the document writes in capitals."""

MOST_LANE = 400
