"""Questions answered from a stream of tokens; the way in is treestream.reading.answers."""
