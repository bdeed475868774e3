"""What can come: graphs, formulas of what can come, ways that show it, and nodes that nothing tells apart."""
