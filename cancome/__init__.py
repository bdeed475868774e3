"""What can come: graphs, formulas of what can come, and where they hold."""
