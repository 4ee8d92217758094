"""Letters through lanes that hold few, and when nobody is ever stuck."""
